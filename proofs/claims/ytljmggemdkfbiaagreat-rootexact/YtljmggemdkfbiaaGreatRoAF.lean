/- Contract of root's change, of fractions (layer 10). Written by genRo.py. -/
import Derived.Test.YtljmggemdkfbiaaGreatRo0
import Derived.Test.YtljmggemdkfbiaaGreatHuDF
import Derived.Test.YtljmggemdkfbiaaGreatTrBF
import Derived.Test.YtljmggemdkfbiaaGreatJo2
import Derived.Test.YtljmggemdkfbiaaGreatKdf
import Derived.Test.YtljmggemdkfbiaaGreatJoEF
namespace Go.Proofs.YtljmggemdkfbiaaGreat
open Go.RowKit
set_option linter.unusedSimpArgs false
set_option linter.unusedVariables false

theorem butRF (u : World) (b : Nat) (v0 v1 v2 : Value) : But (fun i => i = b) u ((((u.setCell ⟨b, 0, none⟩ v0).setCell ⟨b, 1, none⟩ v1).setCell ⟨b, 2, none⟩ v2)) := (((but_cell1 (S := fun i => i = b) rfl _ _ _).trans (but_cell1 (S := fun i => i = b) rfl _ _ _)).trans (but_cell1 (S := fun i => i = b) rfl _ _ _))
theorem linJ_set9F {n i : Nat} (f : Nat → Fr) (hi : i < n) (y : Fr) : (linJ n f).set i y = linJ n (fun r => if r = i then y else f r) := by
  refine List.ext_getElem? fun k => ?_
  rw [List.getElem?_set]
  by_cases hk : k < n
  · rw [linJ_get _ hk, linJ_get _ hk]
    by_cases e : i = k
    · subst e
      simp [linJ_len, hi]
    · rw [if_neg e, if_neg (fun h => e h.symm)]
  · rw [if_neg (by omega)]
    rw [List.getElem?_eq_none (by rw [linJ_len]; omega), List.getElem?_eq_none (by rw [linJ_len]; omega)]
set_option maxRecDepth 100000 in
set_option maxHeartbeats 8000000 in
theorem rChangeF (n N g cap ge ce j0 lo : Nat) (t : StO Fr) (x : Fr) (w : World) (hd : Dim n n) (hN : N = n * n) (h : RwZ 3 cellsF w lo (.slice (some ⟨g, 0, none⟩) N cap) (mk n n t.s)) (he : RwZ 3 cellsF w lo (.slice (some ⟨ge, 0, none⟩) n ce) (linJ n t.e)) (hne : g ≠ ge) (hj0 : j0 < n) :
    Calls Tryz.prog 115 #[mV n n (some ⟨g, 0, none⟩) N cap, .slice (some ⟨ge, 0, none⟩) n ce, .int .i64 j0, frV x, frV t.a] w fun e w' => e = .returned (frV (bO kdF t.a x)) ∧ RwZ 3 cellsF w' lo (.slice (some ⟨g, 0, none⟩) N cap) (mk n n (stepO kdF n j0 x t).s) ∧ RwZ 3 cellsF w' lo (.slice (some ⟨ge, 0, none⟩) n ce) (linJ n (stepO kdF n j0 x t).e) ∧ But (fun b => b = g ∨ b = ge) w w' := by
  have fm : Tryz.prog.follows .mixedOrders = true := by kernel_rfl
  have egT := enters_of Tryz.func113 (by kernel_rfl) rfl
  have egA := enters_of Tryz.func184 (by kernel_rfl) rfl
  have egS := enters_of Tryz.func192 (by kernel_rfl) rfl
  have egM := enters_of Tryz.func187 (by kernel_rfl) rfl
  have egD := enters_of Tryz.func185 (by kernel_rfl) rfl
  have egR := enters_of Tryz.func190 (by kernel_rfl) rfl
  have mvD := Tryz.mDivF
  have mvR := Tryz.mRootF
  have hn16 := hd.r2
  have HN := hideP hN
  have HD := hideP hd
  obtain ⟨av, hav⟩ : ∃ y, y = t.a := ⟨_, rfl⟩
  obtain ⟨ww, hww⟩ : ∃ y, y = mulR x x := ⟨_, rfl⟩
  obtain ⟨bb, hbb⟩ : ∃ y, y = addR av ww := ⟨_, rfl⟩
  obtain ⟨q1, hq1⟩ : ∃ y, y = divR av bb := ⟨_, rfl⟩
  obtain ⟨dd, hdd⟩ : ∃ y, y = rootR q1 := ⟨_, rfl⟩
  obtain ⟨ab, hab⟩ : ∃ y, y = mulR av bb := ⟨_, rfl⟩
  obtain ⟨rt, hrt⟩ : ∃ y, y = rootR ab := ⟨_, rfl⟩
  obtain ⟨cc, hcc⟩ : ∃ y, y = divR x rt := ⟨_, rfl⟩
  have HWW := hideP (fun u => by have := rmul_any x x u; rw [← hww] at this; exact this)
  have HBB := hideP (fun u => by have := radd_any av ww u; rw [← hbb] at this; exact this)
  have HQ1 := hideP (fun u => by have := rdiv_any av bb u; rw [← hq1] at this; exact this)
  have HD1 := hideP (fun u => by have := rroot_any q1 u; rw [← hdd] at this; exact this)
  have HAB := hideP (fun u => by have := rmul_any av bb u; rw [← hab] at this; exact this)
  have HRT := hideP (fun u => by have := rroot_any ab u; rw [← hrt] at this; exact this)
  have HCC := hideP (fun u => by have := rdiv_any x rt u; rw [← hcc] at this; exact this)
  have HAV := hideP hav
  have HBO := hideP (show bO kdF t.a x = bb from by rw [hbb, hww, hav]; rfl)
  have HDD := hideP (show dd = dO kdF av x from by rw [hdd, hq1, hbb, hww]; rfl)
  have HCCQ := hideP (show cc = cO kdF av x from by rw [hcc, hrt, hab, hbb, hww]; rfl)
  rw [HBO.out, ← hav]
  clear hav hww hbb hq1 hdd hab hrt hcc
  obtain ⟨W, hW⟩ : ∃ W, W = (((w.alloc (.cells #[.int .i64 n, .int .i64 n, .slice (some ⟨g, 0, none⟩) N cap] 30)).alloc (.cells #[.int .i64 x.n, .int .i64 x.d, .bool x.bad] 34)).alloc (.cells #[.int .i64 av.n, .int .i64 av.d, .bool av.bad] 34)).alloc (.cells #[.int .i64 0, .int .i64 0, .bool false] 34) := ⟨_, rfl⟩
  have b0 : Bl w W := by rw [hW]; exact ((((Bl.refl _).alloc _).alloc _).alloc _).alloc _
  have m0 : MBox W w.heap.size n n (some ⟨g, 0, none⟩) N cap := by rw [hW]; exact (MBox.new w _ _ _ _ _ _).later ((((Bl.refl _).alloc _).alloc _).alloc _)
  have kw : FBox W (w.heap.size + 1) x := by rw [hW]; have := (FBox.new (w.alloc (.cells #[.int .i64 n, .int .i64 n, .slice (some ⟨g, 0, none⟩) N cap] 30)) x 34).later (((Bl.refl _).alloc (.cells #[.int .i64 av.n, .int .i64 av.d, .bool av.bad] 34)).alloc (.cells #[.int .i64 0, .int .i64 0, .bool false] 34)); simp only [World.size_alloc] at this; exact this
  have ka : FBox W (w.heap.size + 1 + 1) av := by rw [hW]; have := (FBox.new ((w.alloc (.cells #[.int .i64 n, .int .i64 n, .slice (some ⟨g, 0, none⟩) N cap] 30)).alloc (.cells #[.int .i64 x.n, .int .i64 x.d, .bool x.bad] 34)) av 34).later ((Bl.refl _).alloc (.cells #[.int .i64 0, .int .i64 0, .bool false] 34)); simp only [World.size_alloc] at this; exact this
  have kz : FBox W (w.heap.size + 1 + 1 + 1) zeroR := by rw [hW]; have := (FBox.new (((w.alloc (.cells #[.int .i64 n, .int .i64 n, .slice (some ⟨g, 0, none⟩) N cap] 30)).alloc (.cells #[.int .i64 x.n, .int .i64 x.d, .bool x.bad] 34)).alloc (.cells #[.int .i64 av.n, .int .i64 av.d, .bool av.bad] 34)) zeroR 34); simp only [World.size_alloc] at this; exact this
  have hWs : W.heap.size = w.heap.size + 1 + 1 + 1 + 1 := by rw [hW]; simp
  have hglt := h.glt
  have hgelt := he.glt
  have H0 := hideP (h.later b0)
  have E0 := hideP (he.later b0)
  have HW := hideP hW
  clear hW h he hd hN
  go_enter Tryz.func115, Tryz.ntmps115
  go_wp2_with fail
  try simp only [World.size_alloc]
  rw [← HW.out]
  refine (wpIn_wide (n := 8)).1 (region_q fm [some 16, some 17, some 18, some 19, some 20, some 21, some 22, some 11, none] (fun _ => false) 8 (by kernel_rfl) (by rfl)
      (fun j v u => match j with | 0 => v = frV av | 1 => v = .iface 34 (frV av) | 2 => v = frV x | 3 => v = .iface 34 (frV x) | 4 => v = frV x | 5 => v = frV ww | 6 => v = frV bb | 7 => ∃ b, v = .pointer (some ⟨b, 0, none⟩) ∧ W.heap.size ≤ b ∧ FBox u b zeroR | _ => False)
      (by
        intro j v u u' hb h
        split at h <;> first | exact h | (obtain ⟨b, e, h1, h2⟩ := h; exact ⟨b, e, h1, h2.later hb⟩) | (obtain ⟨q, c, e, h1⟩ := h; exact ⟨q, c, e, h1.later hb⟩)) (fun vs u0 u => ∃ b, vs 7 = .pointer (some ⟨b, 0, none⟩) ∧ W.heap.size ≤ b ∧ FBox u b bb ∧ Bl W u) ?step ?still ?store ?fin)
  case step =>
    intro j o t act u ho hdt hpu hsz hu hfr hin
    have hj : j < 9 := (Array.getElem?_eq_some_iff.1 ho).1
    skip
    rcases (by omega : j = 0 ∨ j = 1 ∨ j = 2 ∨ j = 3 ∨ j = 4 ∨ j = 5 ∨ j = 6 ∨ j = 7 ∨ j = 8) with rfl | rfl | rfl | rfl | rfl | rfl | rfl | rfl | rfl
    · simp only [List.getElem?_toArray, List.getElem?_cons_zero, List.getElem?_cons_succ, Option.some.injEq] at ho
      subst ho
      obtain rfl := Option.some.inj hdt
      have i9 : act.eval (.tmp (9 : Nat)) = .pointer (some ⟨w.heap.size + 1 + 1, 0, none⟩) := hfr 9 (by decide)
      obtain ⟨c0, c1, c2, f0, f1, f2, _⟩ := ka.later hu
      exact plain_wp (by intro c h; cases h) (fun _ _ => trivial) (by simp only [execOp, i9, evalC, evalF, evalG]; simp [go_sem, c0, c1, c2]) ⟨_, rfl, rfl, Bl.refl _⟩
    · simp only [List.getElem?_toArray, List.getElem?_cons_zero, List.getElem?_cons_succ, Option.some.injEq] at ho
      subst ho
      obtain rfl := Option.some.inj hdt
      have i16 : (act.eval (.tmp (16 : Nat))) = frV av := hin ⟨0, .data⟩ (by simp) rfl 16 rfl
      exact plain_wp (by intro c h; cases h) (fun _ _ => trivial) (by simp only [execOp, i16, evalC, evalF, evalG]; simp [go_sem]) ⟨_, rfl, rfl, Bl.refl _⟩
    · simp only [List.getElem?_toArray, List.getElem?_cons_zero, List.getElem?_cons_succ, Option.some.injEq] at ho
      subst ho
      obtain rfl := Option.some.inj hdt
      have i8 : act.eval (.tmp (8 : Nat)) = .pointer (some ⟨w.heap.size + 1, 0, none⟩) := hfr 8 (by decide)
      obtain ⟨c0, c1, c2, f0, f1, f2, _⟩ := kw.later hu
      exact plain_wp (by intro c h; cases h) (fun _ _ => trivial) (by simp only [execOp, i8, evalC, evalF, evalG]; simp [go_sem, c0, c1, c2]) ⟨_, rfl, rfl, Bl.refl _⟩
    · simp only [List.getElem?_toArray, List.getElem?_cons_zero, List.getElem?_cons_succ, Option.some.injEq] at ho
      subst ho
      obtain rfl := Option.some.inj hdt
      have i18 : (act.eval (.tmp (18 : Nat))) = frV x := hin ⟨2, .data⟩ (by simp) rfl 18 rfl
      exact plain_wp (by intro c h; cases h) (fun _ _ => trivial) (by simp only [execOp, i18, evalC, evalF, evalG]; simp [go_sem]) ⟨_, rfl, rfl, Bl.refl _⟩
    · simp only [List.getElem?_toArray, List.getElem?_cons_zero, List.getElem?_cons_succ, Option.some.injEq] at ho
      subst ho
      obtain rfl := Option.some.inj hdt
      have i8 : act.eval (.tmp (8 : Nat)) = .pointer (some ⟨w.heap.size + 1, 0, none⟩) := hfr 8 (by decide)
      obtain ⟨c0, c1, c2, f0, f1, f2, _⟩ := kw.later hu
      exact plain_wp (by intro c h; cases h) (fun _ _ => trivial) (by simp only [execOp, i8, evalC, evalF, evalG]; simp [go_sem, c0, c1, c2]) ⟨_, rfl, rfl, Bl.refl _⟩
    · simp only [List.getElem?_toArray, List.getElem?_cons_zero, List.getElem?_cons_succ, Option.some.injEq] at ho
      subst ho
      obtain rfl := Option.some.inj hdt
      have i19 : (act.eval (.tmp (19 : Nat))) = .iface 34 (frV x) := hin ⟨3, .data⟩ (by simp) rfl 19 rfl
      have i20 : (act.eval (.tmp (20 : Nat))) = frV x := hin ⟨4, .data⟩ (by simp) rfl 20 rfl
      have iv := Tryz.mMulF
      refine enter_wp 187 #[frV x, frV x] (by intro c h; cases h) (fun _ _ => trivial) (by simp only [execOp, evalC, evalF, evalG, resolve, i19, i20, List.map_toArray, List.map_cons, List.map_nil]; simp [invoke, iv, egM, Result.andThen, go_sem]) (by intro h; cases h) (callsIn_wide.2 (HWW.out u)) ?_
      rintro e w' ⟨rfl, hb⟩
      exact ⟨_, rfl, _, rfl, rfl, hb⟩
    · simp only [List.getElem?_toArray, List.getElem?_cons_zero, List.getElem?_cons_succ, Option.some.injEq] at ho
      subst ho
      obtain rfl := Option.some.inj hdt
      have i17 : (act.eval (.tmp (17 : Nat))) = .iface 34 (frV av) := hin ⟨1, .data⟩ (by simp) rfl 17 rfl
      have i21 : (act.eval (.tmp (21 : Nat))) = frV ww := hin ⟨5, .data⟩ (by simp) rfl 21 rfl
      have iv := Tryz.mAddF
      refine enter_wp 184 #[frV av, frV ww] (by intro c h; cases h) (fun _ _ => trivial) (by simp only [execOp, evalC, evalF, evalG, resolve, i17, i21, List.map_toArray, List.map_cons, List.map_nil]; simp [invoke, iv, egA, Result.andThen, go_sem]) (by intro h; cases h) (callsIn_wide.2 (HBB.out u)) ?_
      rintro e w' ⟨rfl, hb⟩
      exact ⟨_, rfl, _, rfl, rfl, hb⟩
    · simp only [List.getElem?_toArray, List.getElem?_cons_zero, List.getElem?_cons_succ, Option.some.injEq] at ho
      subst ho
      obtain rfl := Option.some.inj hdt
      exact plain_wp (by intro c h; cases h) (fun _ _ => trivial) (w' := u.alloc (.cells #[.int .i64 0, .int .i64 0, .bool false] 34)) (v := .pointer (some ⟨u.heap.size, 0, none⟩)) (by simp only [execOp]; simp [go_sem]) ⟨_, rfl, ⟨u.heap.size, rfl, hu.size, FBox.new u zeroR _⟩, (Bl.refl _).alloc _⟩
    · simp only [List.getElem?_toArray, List.getElem?_cons_zero, List.getElem?_cons_succ, Option.some.injEq] at ho
      subst ho
      cases hdt
  case still =>
    intro j o t act u0 u ho hdt hpu
    cases hpu
  case store =>
    intro o act u vs ho hsz hu hfr hin
    simp only [List.getElem?_toArray, List.getElem?_cons_zero, List.getElem?_cons_succ, Option.some.injEq] at ho
    subst ho
    obtain ⟨i11, k11⟩ : act.eval (.tmp (11 : Nat)) = vs 7 ∧ (∃ b, (vs 7) = .pointer (some ⟨b, 0, none⟩) ∧ W.heap.size ≤ b ∧ FBox u b zeroR) := hin 7 11 rfl rfl
    obtain ⟨i22, k22⟩ : act.eval (.tmp (22 : Nat)) = vs 6 ∧ ((vs 6) = frV bb) := hin 6 22 rfl rfl
    obtain ⟨b, e1, hb, bx⟩ := k11
    rw [e1] at i11
    replace i22 := i22.trans k22
    obtain ⟨c0, c1, c2, f0, f1, f2, ltb⟩ := id bx
    exact skip_wp (by intro c h; cases h) (fun _ _ => trivial) (by simp only [execOp, i11, i22]; simp [go_sem, zeroR, c0, c1, c2, f0, f1, f2]) ⟨rfl, b, e1, hb, bx.fill _, Bl.set3 hu hb _ _ _⟩
  case fin =>
    intro vs vb u0 u hu hin hps
    have a0 := hin 0 16 rfl
    have a1 := hin 1 17 rfl
    have a2 := hin 2 18 rfl
    have a3 := hin 3 19 rfl
    have a4 := hin 4 20 rfl
    have a5 := hin 5 21 rfl
    have a6 := hin 6 22 rfl
    have a7 := hin 7 11 rfl
    simp only [putL, Act.put, List.setIfInBounds_toArray, List.set_cons_zero, List.set_cons_succ, Nat.zero_add, Nat.reduceAdd, Nat.reduceBEq, Bool.or_false, Bool.or_true, Bool.false_or, Bool.true_or, Bool.false_eq_true, if_false, if_true, reduceIte, Nat.reduceEqDiff, beq_self_eq_true, Bool.or_self] at a0 a1 a2 a3 a4 a5 a6 a7 ⊢
    rw [if_pos (by decide)] at hps
    simp only [a0, a1, a2, a3, a4, a5, a6]
    obtain ⟨b11, eb, hb11, kb, hbu⟩ := hps
    simp only [eb]
    obtain ⟨w1, rfl⟩ : ∃ w1, w1 = u := ⟨_, rfl⟩
    have b1 : Bl W w1 := hbu
    have lt11 : W.heap.size ≤ b11 := hb11
    clear hin hu a0 a1 a2 a3 a4 a5 a6
    obtain ⟨c0, c1, c2, f0, f1, f2, _⟩ := ka.later b1
    obtain ⟨d0, d1, d2, g0, g1, g2, _⟩ := kb
    have kb : FBox w1 b11 bb := ⟨d0, d1, d2, g0, g1, g2, by assumption⟩
    go_wp2_with fail
    refine (HQ1.out _).mono ?_
    rintro e w2 ⟨rfl, h2⟩
    clear c0 c1 c2 f0 f1 f2 d0 d1 d2 g0 g1 g2
    go_wp2_with fail
    refine (HD1.out _).mono ?_
    rintro e w2' ⟨rfl, h2'⟩
    obtain ⟨w3, hw3⟩ : ∃ w3, w3 = w2'.alloc (.cells #[.int .i64 dd.n, .int .i64 dd.d, .bool dd.bad] 34) := ⟨_, rfl⟩
    have b2a : Bl w2' w3 := by rw [hw3]; exact (Bl.refl _).alloc _
    have kd : FBox w3 w2'.heap.size dd := by rw [hw3]; exact FBox.new w2' dd _
    have b13 : Bl w1 w3 := (h2.trans h2').trans b2a
    have b3 : Bl W w3 := b1.trans b13
    obtain ⟨b12, hb12⟩ : ∃ b12, b12 = w2'.heap.size := ⟨_, rfl⟩
    have lt12 : W.heap.size ≤ b12 := by rw [hb12]; have := (b1.trans (h2.trans h2')).size; omega
    have HW3 := hideP hw3
    clear hw3
    go_wp2_with fail
    rw [← HW3.out, ← hb12]
    rw [← hb12] at kd
    clear hb12
    refine (wpIn_wide (n := 8)).1 (region_q fm [some 29, some 30, some 31, some 32, some 33, some 34, some 35, some 36, some 37, some 13, none] (fun _ => false) 10 (by kernel_rfl) (by rfl)
          (fun j v u => match j with | 0 => v = frV x | 1 => v = .iface 34 (frV x) | 2 => v = frV av | 3 => v = .iface 34 (frV av) | 4 => v = frV bb | 5 => v = frV ab | 6 => v = .iface 34 (frV ab) | 7 => v = frV rt | 8 => v = frV cc | 9 => ∃ b, v = .pointer (some ⟨b, 0, none⟩) ∧ w3.heap.size ≤ b ∧ FBox u b zeroR | _ => False)
          (by
            intro j v u u' hb h
            split at h <;> first | exact h | (obtain ⟨b, e, h1, h2⟩ := h; exact ⟨b, e, h1, h2.later hb⟩) | (obtain ⟨q, c, e, h1⟩ := h; exact ⟨q, c, e, h1.later hb⟩)) (fun vs u0 u => ∃ b, vs 9 = .pointer (some ⟨b, 0, none⟩) ∧ w3.heap.size ≤ b ∧ FBox u b cc ∧ Bl w3 u) ?step ?still ?store ?fin)
    case step =>
      intro j o t act u ho hdt hpu hsz hu hfr hin
      have hj : j < 11 := (Array.getElem?_eq_some_iff.1 ho).1
      skip
      rcases (by omega : j = 0 ∨ j = 1 ∨ j = 2 ∨ j = 3 ∨ j = 4 ∨ j = 5 ∨ j = 6 ∨ j = 7 ∨ j = 8 ∨ j = 9 ∨ j = 10) with rfl | rfl | rfl | rfl | rfl | rfl | rfl | rfl | rfl | rfl | rfl
      · simp only [List.getElem?_toArray, List.getElem?_cons_zero, List.getElem?_cons_succ, Option.some.injEq] at ho
        subst ho
        obtain rfl := Option.some.inj hdt
        have i8 : act.eval (.tmp (8 : Nat)) = .pointer (some ⟨w.heap.size + 1, 0, none⟩) := hfr 8 (by decide)
        obtain ⟨c0, c1, c2, f0, f1, f2, _⟩ := kw.later (b3.trans hu)
        exact plain_wp (by intro c h; cases h) (fun _ _ => trivial) (by simp only [execOp, i8, evalC, evalF, evalG]; simp [go_sem, c0, c1, c2]) ⟨_, rfl, rfl, Bl.refl _⟩
      · simp only [List.getElem?_toArray, List.getElem?_cons_zero, List.getElem?_cons_succ, Option.some.injEq] at ho
        subst ho
        obtain rfl := Option.some.inj hdt
        have i29 : (act.eval (.tmp (29 : Nat))) = frV x := hin ⟨0, .data⟩ (by simp) rfl 29 rfl
        exact plain_wp (by intro c h; cases h) (fun _ _ => trivial) (by simp only [execOp, i29, evalC, evalF, evalG]; simp [go_sem]) ⟨_, rfl, rfl, Bl.refl _⟩
      · simp only [List.getElem?_toArray, List.getElem?_cons_zero, List.getElem?_cons_succ, Option.some.injEq] at ho
        subst ho
        obtain rfl := Option.some.inj hdt
        have i9 : act.eval (.tmp (9 : Nat)) = .pointer (some ⟨w.heap.size + 1 + 1, 0, none⟩) := hfr 9 (by decide)
        obtain ⟨c0, c1, c2, f0, f1, f2, _⟩ := ka.later (b3.trans hu)
        exact plain_wp (by intro c h; cases h) (fun _ _ => trivial) (by simp only [execOp, i9, evalC, evalF, evalG]; simp [go_sem, c0, c1, c2]) ⟨_, rfl, rfl, Bl.refl _⟩
      · simp only [List.getElem?_toArray, List.getElem?_cons_zero, List.getElem?_cons_succ, Option.some.injEq] at ho
        subst ho
        obtain rfl := Option.some.inj hdt
        have i31 : (act.eval (.tmp (31 : Nat))) = frV av := hin ⟨2, .data⟩ (by simp) rfl 31 rfl
        exact plain_wp (by intro c h; cases h) (fun _ _ => trivial) (by simp only [execOp, i31, evalC, evalF, evalG]; simp [go_sem]) ⟨_, rfl, rfl, Bl.refl _⟩
      · simp only [List.getElem?_toArray, List.getElem?_cons_zero, List.getElem?_cons_succ, Option.some.injEq] at ho
        subst ho
        obtain rfl := Option.some.inj hdt
        have i11 : act.eval (.tmp (11 : Nat)) = .pointer (some ⟨b11, 0, none⟩) := hfr 11 (by decide)
        obtain ⟨c0, c1, c2, f0, f1, f2, _⟩ := kb.later (b13.trans hu)
        exact plain_wp (by intro c h; cases h) (fun _ _ => trivial) (by simp only [execOp, i11, evalC, evalF, evalG]; simp [go_sem, c0, c1, c2]) ⟨_, rfl, rfl, Bl.refl _⟩
      · simp only [List.getElem?_toArray, List.getElem?_cons_zero, List.getElem?_cons_succ, Option.some.injEq] at ho
        subst ho
        obtain rfl := Option.some.inj hdt
        have i32 : (act.eval (.tmp (32 : Nat))) = .iface 34 (frV av) := hin ⟨3, .data⟩ (by simp) rfl 32 rfl
        have i33 : (act.eval (.tmp (33 : Nat))) = frV bb := hin ⟨4, .data⟩ (by simp) rfl 33 rfl
        have iv := Tryz.mMulF
        refine enter_wp 187 #[frV av, frV bb] (by intro c h; cases h) (fun _ _ => trivial) (by simp only [execOp, evalC, evalF, evalG, resolve, i32, i33, List.map_toArray, List.map_cons, List.map_nil]; simp [invoke, iv, egM, Result.andThen, go_sem]) (by intro h; cases h) (callsIn_wide.2 (HAB.out u)) ?_
        rintro e w' ⟨rfl, hb⟩
        exact ⟨_, rfl, _, rfl, rfl, hb⟩
      · simp only [List.getElem?_toArray, List.getElem?_cons_zero, List.getElem?_cons_succ, Option.some.injEq] at ho
        subst ho
        obtain rfl := Option.some.inj hdt
        have i34 : (act.eval (.tmp (34 : Nat))) = frV ab := hin ⟨5, .data⟩ (by simp) rfl 34 rfl
        exact plain_wp (by intro c h; cases h) (fun _ _ => trivial) (by simp only [execOp, i34, evalC, evalF, evalG]; simp [go_sem]) ⟨_, rfl, rfl, Bl.refl _⟩
      · simp only [List.getElem?_toArray, List.getElem?_cons_zero, List.getElem?_cons_succ, Option.some.injEq] at ho
        subst ho
        obtain rfl := Option.some.inj hdt
        have i35 : (act.eval (.tmp (35 : Nat))) = .iface 34 (frV ab) := hin ⟨6, .data⟩ (by simp) rfl 35 rfl
        have iv := Tryz.mRootF
        refine enter_wp 190 #[frV ab] (by intro c h; cases h) (fun _ _ => trivial) (by simp only [execOp, evalC, evalF, evalG, resolve, i35, List.map_toArray, List.map_cons, List.map_nil]; simp [invoke, iv, egR, Result.andThen, go_sem]) (by intro h; cases h) (callsIn_wide.2 (HRT.out u)) ?_
        rintro e w' ⟨rfl, hb⟩
        exact ⟨_, rfl, _, rfl, rfl, hb⟩
      · simp only [List.getElem?_toArray, List.getElem?_cons_zero, List.getElem?_cons_succ, Option.some.injEq] at ho
        subst ho
        obtain rfl := Option.some.inj hdt
        have i30 : (act.eval (.tmp (30 : Nat))) = .iface 34 (frV x) := hin ⟨1, .data⟩ (by simp) rfl 30 rfl
        have i36 : (act.eval (.tmp (36 : Nat))) = frV rt := hin ⟨7, .data⟩ (by simp) rfl 36 rfl
        have iv := Tryz.mDivF
        refine enter_wp 185 #[frV x, frV rt] (by intro c h; cases h) (fun _ _ => trivial) (by simp only [execOp, evalC, evalF, evalG, resolve, i30, i36, List.map_toArray, List.map_cons, List.map_nil]; simp [invoke, iv, egD, Result.andThen, go_sem]) (by intro h; cases h) (callsIn_wide.2 (HCC.out u)) ?_
        rintro e w' ⟨rfl, hb⟩
        exact ⟨_, rfl, _, rfl, rfl, hb⟩
      · simp only [List.getElem?_toArray, List.getElem?_cons_zero, List.getElem?_cons_succ, Option.some.injEq] at ho
        subst ho
        obtain rfl := Option.some.inj hdt
        exact plain_wp (by intro c h; cases h) (fun _ _ => trivial) (w' := u.alloc (.cells #[.int .i64 0, .int .i64 0, .bool false] 34)) (v := .pointer (some ⟨u.heap.size, 0, none⟩)) (by simp only [execOp]; simp [go_sem]) ⟨_, rfl, ⟨u.heap.size, rfl, hu.size, FBox.new u zeroR _⟩, (Bl.refl _).alloc _⟩
      · simp only [List.getElem?_toArray, List.getElem?_cons_zero, List.getElem?_cons_succ, Option.some.injEq] at ho
        subst ho
        cases hdt
    case still =>
      intro j o t act u0 u ho hdt hpu
      cases hpu
    case store =>
      intro o act u vs ho hsz hu hfr hin
      simp only [List.getElem?_toArray, List.getElem?_cons_zero, List.getElem?_cons_succ, Option.some.injEq] at ho
      subst ho
      obtain ⟨i13, k13⟩ : act.eval (.tmp (13 : Nat)) = vs 9 ∧ (∃ b, (vs 9) = .pointer (some ⟨b, 0, none⟩) ∧ w3.heap.size ≤ b ∧ FBox u b zeroR) := hin 9 13 rfl rfl
      obtain ⟨i37, k37⟩ : act.eval (.tmp (37 : Nat)) = vs 8 ∧ ((vs 8) = frV cc) := hin 8 37 rfl rfl
      obtain ⟨b, e1, hb, bx⟩ := k13
      rw [e1] at i13
      replace i37 := i37.trans k37
      obtain ⟨c0, c1, c2, f0, f1, f2, ltb⟩ := id bx
      exact skip_wp (by intro c h; cases h) (fun _ _ => trivial) (by simp only [execOp, i13, i37]; simp [go_sem, zeroR, c0, c1, c2, f0, f1, f2]) ⟨rfl, b, e1, hb, bx.fill _, Bl.set3 hu hb _ _ _⟩
    case fin =>
      intro vs vb u0 u hu hin hps
      have a0 := hin 0 29 rfl
      have a1 := hin 1 30 rfl
      have a2 := hin 2 31 rfl
      have a3 := hin 3 32 rfl
      have a4 := hin 4 33 rfl
      have a5 := hin 5 34 rfl
      have a6 := hin 6 35 rfl
      have a7 := hin 7 36 rfl
      have a8 := hin 8 37 rfl
      have a9 := hin 9 13 rfl
      simp only [putL, Act.put, List.setIfInBounds_toArray, List.set_cons_zero, List.set_cons_succ, Nat.zero_add, Nat.reduceAdd, Nat.reduceBEq, Bool.or_false, Bool.or_true, Bool.false_or, Bool.true_or, Bool.false_eq_true, if_false, if_true, reduceIte, Nat.reduceEqDiff, beq_self_eq_true, Bool.or_self] at a0 a1 a2 a3 a4 a5 a6 a7 a8 a9 ⊢
      rw [if_pos (by decide)] at hps
      simp only [a0, a1, a2, a3, a4, a5, a6, a7, a8]
      obtain ⟨b13', eb, hb13, kc, hbu⟩ := hps
      simp only [eb]
      obtain ⟨w5, rfl⟩ : ∃ w5, w5 = u := ⟨_, rfl⟩
      have b35 : Bl w3 w5 := hbu
      have b5 : Bl W w5 := b3.trans hbu
      have B5 : Bl W w5 := b5
      have b05 : Bl W W := Bl.refl _
      have b15' : Bl w1 w5 := b13.trans hbu
      have lt13 : w3.heap.size ≤ b13' := hb13
      have lt12 := lt12
      clear hin hu a0 a1 a2 a3 a4 a5 a6 a7 a8
      go_wp2_with fail
      go_loopw [14] (fun v wr => ∃ i : Nat, v = .int .i64 i ∧ j0 ≤ i ∧ i ≤ n ∧ RwZ 3 cellsF wr lo (.slice (some ⟨g, 0, none⟩) N cap) (mk n n (partS kdF j0 i x t)) ∧ RwZ 3 cellsF wr lo (.slice (some ⟨ge, 0, none⟩) n ce) (linJ n (partE kdF j0 i x t)) ∧ But (fun b => b = g ∨ b = ge) w5 wr) (fun v _ => n - (intOf v).toNat)
      case atStart => exact ⟨j0, rfl, Nat.le_refl _, by omega, by rw [partS_zero]; exact H0.out.later B5, by rw [partE_zero]; exact E0.out.later B5, But.refl _ _⟩
      case round =>
        obtain ⟨i, rfl, hji, hin, hr, he, bt⟩ := hrel
        have HR := hideP hr
        have HE := hideP he
        clear hr he
        have mb : MBox wr w.heap.size n n (some ⟨g, 0, none⟩) N cap := (m0.later b5).but bt (by have := hglt; have := hgelt; omega)
        by_cases hlt : i < n
        · obtain ⟨a, q, e1, e2, hq1, hq3, hq5, hq6⟩ := place HD.out hlt hj0
          rw [← HN.out] at hq5
          have HPQ := hideP e2
          clear e1 e2
          obtain ⟨y, hy⟩ : ∃ y, y = t.s i j0 := ⟨_, rfl⟩
          obtain ⟨ei, hei⟩ : ∃ y, y = t.e i := ⟨_, rfl⟩
          obtain ⟨yd, hyd⟩ : ∃ z, z = mulR y dd := ⟨_, rfl⟩
          obtain ⟨ec, hec⟩ : ∃ z, z = mulR ei cc := ⟨_, rfl⟩
          obtain ⟨sn, hsn⟩ : ∃ z, z = subR yd ec := ⟨_, rfl⟩
          obtain ⟨yx, hyx⟩ : ∃ z, z = mulR y x := ⟨_, rfl⟩
          obtain ⟨en, hen⟩ : ∃ z, z = addR ei yx := ⟨_, rfl⟩
          have HSNQ := hideP (show sO kdF t.a x (t.s i j0) (t.e i) = sn from by rw [hsn, hyd, hec, hy, hei, HDD.out, HCCQ.out, HAV.out]; rfl)
          have HENQ := hideP (show kdF.add (t.e i) (kdF.mul (t.s i j0) x) = en from by rw [hen, hyx, hy, hei]; rfl)
          have HEIQ := hideP hei
          have AT := hideP (fun u (hu : Bl wr u) => by have := mAtF n n (some ⟨g, 0, none⟩) N cap (partS kdF j0 i x t) u ⟨HD.out, HN.out, (HR.out.later hu).rw.q⟩ i j0 hlt hj0; rw [partS_at, ← hy] at this; exact this)
          have HYD := hideP (fun u => by have := rmul_any y dd u; rw [← hyd] at this; exact this)
          have HEC := hideP (fun u => by have := rmul_any ei cc u; rw [← hec] at this; exact this)
          have HSN := hideP (fun u => by have := rsub_any yd ec u; rw [← hsn] at this; exact this)
          have HYX := hideP (fun u => by have := rmul_any y x u; rw [← hyx] at this; exact this)
          have HEN := hideP (fun u => by have := radd_any ei yx u; rw [← hen] at this; exact this)
          have HYQ := hideP hy
          clear hy hei hyd hec hsn hyx hen
          obtain ⟨m0', m1', m2', _, _, _, _⟩ := id mb
          go_wp2_with fail
          refine (AT.out _ (Bl.refl _)).mono ?_
          rintro e w7 ⟨rfl, h7⟩
          clear m0' m1' m2'
          obtain ⟨W7, hW7⟩ : ∃ W7, W7 = w7.alloc (.cells #[.int .i64 y.n, .int .i64 y.d, .bool y.bad] 34) := ⟨_, rfl⟩
          have b7 : Bl w7 W7 := by rw [hW7]; exact (Bl.refl _).alloc _
          have ky7 : FBox W7 w7.heap.size y := by rw [hW7]; exact FBox.new w7 y _
          have b7r : Bl wr W7 := h7.trans b7
          have hgl7 : g < w7.heap.size := Nat.lt_of_lt_of_le HR.out.glt h7.size
          have bt7 : But (fun b => b = g ∨ b = ge) w5 W7 := bt.trans (But.of_bl b7r)
          have km7 := mb.later b7r
          have kw7 : FBox W7 (w.heap.size + 1) x := ((kw.later b5).but bt (by have := hglt; have := hgelt; omega)).later b7r
          have kd7 : FBox W7 b12 dd := ((kd.later b35).but bt (by have := hglt; have := hgelt; have := lt12; omega)).later b7r
          have kc7 : FBox W7 b13' cc := (kc.but bt (by have := hglt; have := hgelt; have := lt13; have := b3.size; omega)).later b7r
          have HR7 := hideP (HR.out.later b7r)
          have HE7 := hideP (HE.out.later b7r)
          have hgl : g < W7.heap.size := HR7.out.glt
          have hgel : ge < W7.heap.size := HE7.out.glt
          have bws : w.heap.size + 1 + 1 + 1 + 1 ≤ w5.heap.size := by have := (b05.trans b5).size; omega
          have CG := hideP (show ∀ j u, (cellsF y)[j]? = some u → W7.cell? ⟨g, q * 3 + j, none⟩ = some u from fun j u hu => by
            obtain ⟨g', c', e, _, _, _, _, hc⟩ := HR7.out
            cases e
            exact hc q y (by rw [HPQ.out, mk_get _ hlt hj0, partS_at, HYQ.out]) j u hu)
          have FG := hideP (show ∀ j, W7.frozen? ⟨g, j, none⟩ = false from fun j => by
            obtain ⟨g', c', e, _, _, _, hf, _⟩ := HR7.out
            cases e
            exact hf j)
          have CE := hideP (show ∀ j u, (cellsF ei)[j]? = some u → W7.cell? ⟨ge, i * 3 + j, none⟩ = some u from fun j u hu => by
            obtain ⟨g', c', e, _, _, _, _, hc⟩ := HE7.out
            simp only [Value.slice.injEq, Option.some.injEq, Addr.mk.injEq] at e
            obtain ⟨⟨rfl, _⟩, _, rfl⟩ := e
            exact hc i ei (by rw [linJ_get _ hlt, partE_at, HEIQ.out]) j u hu)
          have WA : IntKind.i64.wrap (a : Int) = a := wrapS7 (by omega) (by have := HD.out.lt; have := HN.out; omega)
          have WQ : IntKind.i64.wrap (q : Int) = q := wrapS7 (by omega) (by have := HD.out.lt; have := HN.out; omega)
          have HW7 := hideP hW7
          clear hW7
          go_wp2_with fail
          rw [← HW7.out]
          refine (wpIn_wide (n := 8)).1 (region_q fm [some 49, some 50, some 51, some 52, some 53, some 54, some 55, some 56, some 57, some 58, some 59, some 60, some 61, some 62, some 63, some 64, some 65, some 66, some 67, some 68, some 69, some 70, none] (fun _ => false) 22 (by kernel_rfl) (by rfl)
              (fun j v u => match j with | 0 => v = .pointer (some ⟨w.heap.size, 2, none⟩) | 1 => v = .slice (some ⟨g, 0, none⟩) N cap | 2 => v = .int .i64 i | 3 => v = .pointer (some ⟨w.heap.size, 1, none⟩) | 4 => v = .int .i64 n | 5 => v = .int .i64 a | 6 => v = .int .i64 j0 | 7 => v = .int .i64 q | 8 => v = frV y | 9 => v = .iface 34 (frV y) | 10 => v = frV dd | 11 => v = frV yd | 12 => v = .iface 34 (frV yd) | 13 => v = .slice (some ⟨ge, 0, none⟩) n ce | 14 => v = .int .i64 i | 15 => v = .pointer (some ⟨ge, i * 3, none⟩) | 16 => v = frV ei | 17 => v = .iface 34 (frV ei) | 18 => v = frV cc | 19 => v = frV ec | 20 => v = frV sn | 21 => v = .pointer (some ⟨g, q * 3, none⟩) | _ => False)
              (fun j v u u' _ h => h) (fun vs u0 u => u = u0.setCells g (q * 3) (cellsF sn)) ?step ?still ?store ?fin)
          case step =>
            intro j o t act u ho hdt hpu hsz hu hfr hin
            have hj : j < 23 := (Array.getElem?_eq_some_iff.1 ho).1
            obtain ⟨m0, m1, m2, _, _, _, _⟩ := km7.later hu
            have ee0 : u.cell? ⟨ge, i * 3, none⟩ = some (.int .i64 ei.n) := (bl_cell hu _ _ hgel).trans (CE.out 0 _ rfl)
            have ee1 : u.cell? ⟨ge, i * 3 + 1, none⟩ = some (.int .i64 ei.d) := (bl_cell hu _ _ hgel).trans (CE.out 1 _ rfl)
            have ee2 : u.cell? ⟨ge, i * 3 + 2, none⟩ = some (.bool ei.bad) := (bl_cell hu _ _ hgel).trans (CE.out 2 _ rfl)
            have gg0 : u.cell? ⟨g, q * 3, none⟩ = some (.int .i64 y.n) := (bl_cell hu _ _ hgl).trans (CG.out 0 _ rfl)
            have fg0 : u.frozen? ⟨g, q * 3, none⟩ = false := (bl_froz hu _ _ hgl).trans (FG.out _)
            have gg1 : u.cell? ⟨g, q * 3 + 1, none⟩ = some (.int .i64 y.d) := (bl_cell hu _ _ hgl).trans (CG.out 1 _ rfl)
            have fg1 : u.frozen? ⟨g, q * 3 + 1, none⟩ = false := (bl_froz hu _ _ hgl).trans (FG.out _)
            have gg2 : u.cell? ⟨g, q * 3 + 2, none⟩ = some (.bool y.bad) := (bl_cell hu _ _ hgl).trans (CG.out 2 _ rfl)
            have fg2 : u.frozen? ⟨g, q * 3 + 2, none⟩ = false := (bl_froz hu _ _ hgl).trans (FG.out _)
            rcases (by omega : j = 0 ∨ j = 1 ∨ j = 2 ∨ j = 3 ∨ j = 4 ∨ j = 5 ∨ j = 6 ∨ j = 7 ∨ j = 8 ∨ j = 9 ∨ j = 10 ∨ j = 11 ∨ j = 12 ∨ j = 13 ∨ j = 14 ∨ j = 15 ∨ j = 16 ∨ j = 17 ∨ j = 18 ∨ j = 19 ∨ j = 20 ∨ j = 21 ∨ j = 22) with rfl | rfl | rfl | rfl | rfl | rfl | rfl | rfl | rfl | rfl | rfl | rfl | rfl | rfl | rfl | rfl | rfl | rfl | rfl | rfl | rfl | rfl | rfl
            · simp only [List.getElem?_toArray, List.getElem?_cons_zero, List.getElem?_cons_succ, Option.some.injEq] at ho
              subst ho
              obtain rfl := Option.some.inj hdt
              have i5 : act.eval (.tmp (5 : Nat)) = .pointer (some ⟨w.heap.size, 0, none⟩) := hfr 5 (by decide)
              exact plain_wp (by intro c h; cases h) (fun _ _ => trivial) (by simp only [execOp, i5, evalC, evalF, evalG]; simp [go_sem, m0, m1, m2]) ⟨_, rfl, rfl, Bl.refl _⟩
            · simp only [List.getElem?_toArray, List.getElem?_cons_zero, List.getElem?_cons_succ, Option.some.injEq] at ho
              subst ho
              obtain rfl := Option.some.inj hdt
              have i49 : (act.eval (.tmp (49 : Nat))) = .pointer (some ⟨w.heap.size, 2, none⟩) := hin ⟨0, .data⟩ (by simp) rfl 49 rfl
              exact plain_wp (by intro c h; cases h) (fun _ _ => trivial) (by simp only [execOp, i49, evalC, evalF, evalG]; simp [go_sem, m0, m1, m2]) ⟨_, rfl, rfl, Bl.refl _⟩
            · simp only [List.getElem?_toArray, List.getElem?_cons_zero, List.getElem?_cons_succ, Option.some.injEq] at ho
              subst ho
              obtain rfl := Option.some.inj hdt
              have i14 : act.eval (.tmp (14 : Nat)) = .int .i64 i := hfr 14 (by decide)
              exact plain_wp (by intro c h; cases h) (fun _ _ => trivial) (by simp only [execOp, i14, evalC, evalF, evalG]; simp [go_sem, m0]) ⟨_, rfl, rfl, Bl.refl _⟩
            · simp only [List.getElem?_toArray, List.getElem?_cons_zero, List.getElem?_cons_succ, Option.some.injEq] at ho
              subst ho
              obtain rfl := Option.some.inj hdt
              have i5 : act.eval (.tmp (5 : Nat)) = .pointer (some ⟨w.heap.size, 0, none⟩) := hfr 5 (by decide)
              exact plain_wp (by intro c h; cases h) (fun _ _ => trivial) (by simp only [execOp, i5, evalC, evalF, evalG]; simp [go_sem, m0, m1, m2]) ⟨_, rfl, rfl, Bl.refl _⟩
            · simp only [List.getElem?_toArray, List.getElem?_cons_zero, List.getElem?_cons_succ, Option.some.injEq] at ho
              subst ho
              obtain rfl := Option.some.inj hdt
              have i52 : (act.eval (.tmp (52 : Nat))) = .pointer (some ⟨w.heap.size, 1, none⟩) := hin ⟨3, .data⟩ (by simp) rfl 52 rfl
              exact plain_wp (by intro c h; cases h) (fun _ _ => trivial) (by simp only [execOp, i52, evalC, evalF, evalG]; simp [go_sem, m0, m1, m2]) ⟨_, rfl, rfl, Bl.refl _⟩
            · simp only [List.getElem?_toArray, List.getElem?_cons_zero, List.getElem?_cons_succ, Option.some.injEq] at ho
              subst ho
              obtain rfl := Option.some.inj hdt
              have i51 : (act.eval (.tmp (51 : Nat))) = .int .i64 i := hin ⟨2, .data⟩ (by simp) rfl 51 rfl
              have i53 : (act.eval (.tmp (53 : Nat))) = .int .i64 n := hin ⟨4, .data⟩ (by simp) rfl 53 rfl
              exact plain_wp (by intro c h; cases h) (fun _ _ => trivial) (by simp only [execOp, i51, i53, evalC, evalF, evalG]; simp [go_sem, hq1, WA]) ⟨_, rfl, rfl, Bl.refl _⟩
            · simp only [List.getElem?_toArray, List.getElem?_cons_zero, List.getElem?_cons_succ, Option.some.injEq] at ho
              subst ho
              obtain rfl := Option.some.inj hdt
              have i2 : act.eval (.tmp (2 : Nat)) = .int .i64 j0 := hfr 2 (by decide)
              exact plain_wp (by intro c h; cases h) (fun _ _ => trivial) (by simp only [execOp, i2, evalC, evalF, evalG]; simp [go_sem, m0]) ⟨_, rfl, rfl, Bl.refl _⟩
            · simp only [List.getElem?_toArray, List.getElem?_cons_zero, List.getElem?_cons_succ, Option.some.injEq] at ho
              subst ho
              obtain rfl := Option.some.inj hdt
              have i54 : (act.eval (.tmp (54 : Nat))) = .int .i64 a := hin ⟨5, .data⟩ (by simp) rfl 54 rfl
              have i55 : (act.eval (.tmp (55 : Nat))) = .int .i64 j0 := hin ⟨6, .data⟩ (by simp) rfl 55 rfl
              exact plain_wp (by intro c h; cases h) (fun _ _ => trivial) (by simp only [execOp, i54, i55, evalC, evalF, evalG]; simp [go_sem, hq3, WQ]) ⟨_, rfl, rfl, Bl.refl _⟩
            · simp only [List.getElem?_toArray, List.getElem?_cons_zero, List.getElem?_cons_succ, Option.some.injEq] at ho
              subst ho
              obtain rfl := Option.some.inj hdt
              have i15 : act.eval (.tmp (15 : Nat)) = .pointer (some ⟨w7.heap.size, 0, none⟩) := hfr 15 (by decide)
              obtain ⟨c0, c1, c2, f0, f1, f2, _⟩ := ky7.later hu
              exact plain_wp (by intro c h; cases h) (fun _ _ => trivial) (by simp only [execOp, i15, evalC, evalF, evalG]; simp [go_sem, c0, c1, c2]) ⟨_, rfl, rfl, Bl.refl _⟩
            · simp only [List.getElem?_toArray, List.getElem?_cons_zero, List.getElem?_cons_succ, Option.some.injEq] at ho
              subst ho
              obtain rfl := Option.some.inj hdt
              have i57 : (act.eval (.tmp (57 : Nat))) = frV y := hin ⟨8, .data⟩ (by simp) rfl 57 rfl
              exact plain_wp (by intro c h; cases h) (fun _ _ => trivial) (by simp only [execOp, i57, evalC, evalF, evalG]; simp [go_sem]) ⟨_, rfl, rfl, Bl.refl _⟩
            · simp only [List.getElem?_toArray, List.getElem?_cons_zero, List.getElem?_cons_succ, Option.some.injEq] at ho
              subst ho
              obtain rfl := Option.some.inj hdt
              have i12 : act.eval (.tmp (12 : Nat)) = .pointer (some ⟨b12, 0, none⟩) := hfr 12 (by decide)
              obtain ⟨c0, c1, c2, f0, f1, f2, _⟩ := kd7.later hu
              exact plain_wp (by intro c h; cases h) (fun _ _ => trivial) (by simp only [execOp, i12, evalC, evalF, evalG]; simp [go_sem, c0, c1, c2]) ⟨_, rfl, rfl, Bl.refl _⟩
            · simp only [List.getElem?_toArray, List.getElem?_cons_zero, List.getElem?_cons_succ, Option.some.injEq] at ho
              subst ho
              obtain rfl := Option.some.inj hdt
              have i58 : (act.eval (.tmp (58 : Nat))) = .iface 34 (frV y) := hin ⟨9, .data⟩ (by simp) rfl 58 rfl
              have i59 : (act.eval (.tmp (59 : Nat))) = frV dd := hin ⟨10, .data⟩ (by simp) rfl 59 rfl
              have iv := Tryz.mMulF
              refine enter_wp 187 #[frV y, frV dd] (by intro c h; cases h) (fun _ _ => trivial) (by simp only [execOp, evalC, evalF, evalG, resolve, i58, i59, List.map_toArray, List.map_cons, List.map_nil]; simp [invoke, iv, egM, Result.andThen, go_sem]) (by intro h; cases h) (callsIn_wide.2 (HYD.out u)) ?_
              rintro e w' ⟨rfl, hb⟩
              exact ⟨_, rfl, _, rfl, rfl, hb⟩
            · simp only [List.getElem?_toArray, List.getElem?_cons_zero, List.getElem?_cons_succ, Option.some.injEq] at ho
              subst ho
              obtain rfl := Option.some.inj hdt
              have i60 : (act.eval (.tmp (60 : Nat))) = frV yd := hin ⟨11, .data⟩ (by simp) rfl 60 rfl
              exact plain_wp (by intro c h; cases h) (fun _ _ => trivial) (by simp only [execOp, i60, evalC, evalF, evalG]; simp [go_sem]) ⟨_, rfl, rfl, Bl.refl _⟩
            · simp only [List.getElem?_toArray, List.getElem?_cons_zero, List.getElem?_cons_succ, Option.some.injEq] at ho
              subst ho
              obtain rfl := Option.some.inj hdt
              have i1 : act.eval (.tmp (1 : Nat)) = .slice (some ⟨ge, 0, none⟩) n ce := hfr 1 (by decide)
              exact plain_wp (by intro c h; cases h) (fun _ _ => trivial) (by simp only [execOp, i1, evalC, evalF, evalG]; simp [go_sem, m0]) ⟨_, rfl, rfl, Bl.refl _⟩
            · simp only [List.getElem?_toArray, List.getElem?_cons_zero, List.getElem?_cons_succ, Option.some.injEq] at ho
              subst ho
              obtain rfl := Option.some.inj hdt
              have i14 : act.eval (.tmp (14 : Nat)) = .int .i64 i := hfr 14 (by decide)
              exact plain_wp (by intro c h; cases h) (fun _ _ => trivial) (by simp only [execOp, i14, evalC, evalF, evalG]; simp [go_sem, m0]) ⟨_, rfl, rfl, Bl.refl _⟩
            · simp only [List.getElem?_toArray, List.getElem?_cons_zero, List.getElem?_cons_succ, Option.some.injEq] at ho
              subst ho
              obtain rfl := Option.some.inj hdt
              have i62 : (act.eval (.tmp (62 : Nat))) = .slice (some ⟨ge, 0, none⟩) n ce := hin ⟨13, .data⟩ (by simp) rfl 62 rfl
              have i63 : (act.eval (.tmp (63 : Nat))) = .int .i64 i := hin ⟨14, .data⟩ (by simp) rfl 63 rfl
              exact plain_wp (by intro c h; cases h) (fun _ _ => trivial) (by simp only [execOp, i62, i63, evalC, evalF, evalG]; simp [go_sem, hlt, ee0, ee1, ee2]) ⟨_, rfl, rfl, Bl.refl _⟩
            · simp only [List.getElem?_toArray, List.getElem?_cons_zero, List.getElem?_cons_succ, Option.some.injEq] at ho
              subst ho
              obtain rfl := Option.some.inj hdt
              have i64 : (act.eval (.tmp (64 : Nat))) = .pointer (some ⟨ge, i * 3, none⟩) := hin ⟨15, .data⟩ (by simp) rfl 64 rfl
              exact plain_wp (by intro c h; cases h) (fun _ _ => trivial) (by simp only [execOp, i64, evalC, evalF, evalG]; simp [go_sem, ee0, ee1, ee2]) ⟨_, rfl, rfl, Bl.refl _⟩
            · simp only [List.getElem?_toArray, List.getElem?_cons_zero, List.getElem?_cons_succ, Option.some.injEq] at ho
              subst ho
              obtain rfl := Option.some.inj hdt
              have i65 : (act.eval (.tmp (65 : Nat))) = frV ei := hin ⟨16, .data⟩ (by simp) rfl 65 rfl
              exact plain_wp (by intro c h; cases h) (fun _ _ => trivial) (by simp only [execOp, i65, evalC, evalF, evalG]; simp [go_sem]) ⟨_, rfl, rfl, Bl.refl _⟩
            · simp only [List.getElem?_toArray, List.getElem?_cons_zero, List.getElem?_cons_succ, Option.some.injEq] at ho
              subst ho
              obtain rfl := Option.some.inj hdt
              have i13 : act.eval (.tmp (13 : Nat)) = .pointer (some ⟨b13', 0, none⟩) := hfr 13 (by decide)
              obtain ⟨c0, c1, c2, f0, f1, f2, _⟩ := kc7.later hu
              exact plain_wp (by intro c h; cases h) (fun _ _ => trivial) (by simp only [execOp, i13, evalC, evalF, evalG]; simp [go_sem, c0, c1, c2]) ⟨_, rfl, rfl, Bl.refl _⟩
            · simp only [List.getElem?_toArray, List.getElem?_cons_zero, List.getElem?_cons_succ, Option.some.injEq] at ho
              subst ho
              obtain rfl := Option.some.inj hdt
              have i66 : (act.eval (.tmp (66 : Nat))) = .iface 34 (frV ei) := hin ⟨17, .data⟩ (by simp) rfl 66 rfl
              have i67 : (act.eval (.tmp (67 : Nat))) = frV cc := hin ⟨18, .data⟩ (by simp) rfl 67 rfl
              have iv := Tryz.mMulF
              refine enter_wp 187 #[frV ei, frV cc] (by intro c h; cases h) (fun _ _ => trivial) (by simp only [execOp, evalC, evalF, evalG, resolve, i66, i67, List.map_toArray, List.map_cons, List.map_nil]; simp [invoke, iv, egM, Result.andThen, go_sem]) (by intro h; cases h) (callsIn_wide.2 (HEC.out u)) ?_
              rintro e w' ⟨rfl, hb⟩
              exact ⟨_, rfl, _, rfl, rfl, hb⟩
            · simp only [List.getElem?_toArray, List.getElem?_cons_zero, List.getElem?_cons_succ, Option.some.injEq] at ho
              subst ho
              obtain rfl := Option.some.inj hdt
              have i61 : (act.eval (.tmp (61 : Nat))) = .iface 34 (frV yd) := hin ⟨12, .data⟩ (by simp) rfl 61 rfl
              have i68 : (act.eval (.tmp (68 : Nat))) = frV ec := hin ⟨19, .data⟩ (by simp) rfl 68 rfl
              have iv := Tryz.mSubF
              refine enter_wp 192 #[frV yd, frV ec] (by intro c h; cases h) (fun _ _ => trivial) (by simp only [execOp, evalC, evalF, evalG, resolve, i61, i68, List.map_toArray, List.map_cons, List.map_nil]; simp [invoke, iv, egS, Result.andThen, go_sem]) (by intro h; cases h) (callsIn_wide.2 (HSN.out u)) ?_
              rintro e w' ⟨rfl, hb⟩
              exact ⟨_, rfl, _, rfl, rfl, hb⟩
            · simp only [List.getElem?_toArray, List.getElem?_cons_zero, List.getElem?_cons_succ, Option.some.injEq] at ho
              subst ho
              obtain rfl := Option.some.inj hdt
              have i50 : (act.eval (.tmp (50 : Nat))) = .slice (some ⟨g, 0, none⟩) N cap := hin ⟨1, .data⟩ (by simp) rfl 50 rfl
              have i56 : (act.eval (.tmp (56 : Nat))) = .int .i64 q := hin ⟨7, .data⟩ (by simp) rfl 56 rfl
              exact plain_wp (by intro c h; cases h) (fun _ _ => trivial) (by simp only [execOp, i50, i56, evalC, evalF, evalG]; simp [go_sem, hq5, gg0, fg0, gg1, fg1, gg2, fg2]) ⟨_, rfl, rfl, Bl.refl _⟩
            · simp only [List.getElem?_toArray, List.getElem?_cons_zero, List.getElem?_cons_succ, Option.some.injEq] at ho
              subst ho
              cases hdt
          case still =>
            intro j o t act u0 u ho hdt hpu
            cases hpu
          case store =>
            intro o act u vs ho hsz hu hfr hin
            simp only [List.getElem?_toArray, List.getElem?_cons_zero, List.getElem?_cons_succ, Option.some.injEq] at ho
            subst ho
            obtain ⟨i69, k69⟩ : act.eval (.tmp (69 : Nat)) = vs 20 ∧ ((vs 20) = frV sn) := hin 20 69 rfl rfl
            obtain ⟨i70, k70⟩ : act.eval (.tmp (70 : Nat)) = vs 21 ∧ ((vs 21) = .pointer (some ⟨g, q * 3, none⟩)) := hin 21 70 rfl rfl
            have gg0 : u.cell? ⟨g, q * 3, none⟩ = some (.int .i64 y.n) := (bl_cell hu _ _ hgl).trans (CG.out 0 _ rfl)
            have fg0 : u.frozen? ⟨g, q * 3, none⟩ = false := (bl_froz hu _ _ hgl).trans (FG.out _)
            have gg1 : u.cell? ⟨g, q * 3 + 1, none⟩ = some (.int .i64 y.d) := (bl_cell hu _ _ hgl).trans (CG.out 1 _ rfl)
            have fg1 : u.frozen? ⟨g, q * 3 + 1, none⟩ = false := (bl_froz hu _ _ hgl).trans (FG.out _)
            have gg2 : u.cell? ⟨g, q * 3 + 2, none⟩ = some (.bool y.bad) := (bl_cell hu _ _ hgl).trans (CG.out 2 _ rfl)
            have fg2 : u.frozen? ⟨g, q * 3 + 2, none⟩ = false := (bl_froz hu _ _ hgl).trans (FG.out _)
            replace i70 := i70.trans k70
            replace i69 := i69.trans k69
            exact skip_wp (by intro c h; cases h) (fun _ _ => trivial) (by simp only [execOp, i70, i69]; simp [go_sem, gg0, fg0, gg1, fg1, gg2, fg2]; rfl) ⟨rfl, rfl⟩
          case fin =>
            intro vs vb u0 u hu hin hps
            have a0 := hin 0 49 rfl
            have a1 := hin 1 50 rfl
            have a2 := hin 2 51 rfl
            have a3 := hin 3 52 rfl
            have a4 := hin 4 53 rfl
            have a5 := hin 5 54 rfl
            have a6 := hin 6 55 rfl
            have a7 := hin 7 56 rfl
            have a8 := hin 8 57 rfl
            have a9 := hin 9 58 rfl
            have a10 := hin 10 59 rfl
            have a11 := hin 11 60 rfl
            have a12 := hin 12 61 rfl
            have a13 := hin 13 62 rfl
            have a14 := hin 14 63 rfl
            have a15 := hin 15 64 rfl
            have a16 := hin 16 65 rfl
            have a17 := hin 17 66 rfl
            have a18 := hin 18 67 rfl
            have a19 := hin 19 68 rfl
            have a20 := hin 20 69 rfl
            have a21 := hin 21 70 rfl
            simp only [putL, Act.put, List.setIfInBounds_toArray, List.set_cons_zero, List.set_cons_succ, Nat.zero_add, Nat.reduceAdd, Nat.reduceBEq, Bool.or_false, Bool.or_true, Bool.false_or, Bool.true_or, Bool.false_eq_true, if_false, if_true, reduceIte, Nat.reduceEqDiff, beq_self_eq_true, Bool.or_self] at a0 a1 a2 a3 a4 a5 a6 a7 a8 a9 a10 a11 a12 a13 a14 a15 a16 a17 a18 a19 a20 a21 ⊢
            rw [if_pos (by decide)] at hps
            simp only [a0, a1, a2, a3, a4, a5, a6, a7, a8, a9, a10, a11, a12, a13, a14, a15, a16, a17, a18, a19, a20, a21]
            have hq' : q < (mk n n (partS kdF j0 i x t)).length := by rw [mk_len, ← HN.out]; exact hq5
            have PUT := hideP ((HR7.out.later hu).putAt cellsF_len hq' sn)
            rw [HPQ.out, mk_put hlt hj0, ← HPQ.out, ← hps] at PUT
            obtain ⟨w8, hw8⟩ : ∃ w8, w8 = u := ⟨_, rfl⟩
            subst hw8
            have HS8 := hideP (show RwZ 3 cellsF w8 lo (.slice (some ⟨g, 0, none⟩) N cap) (mk n n (partS kdF j0 (i + 1) x t)) from by rw [partS_next kdF hji, HSNQ.out]; exact PUT.out)
            have HE8 := hideP (show RwZ 3 cellsF w8 lo (.slice (some ⟨ge, 0, none⟩) n ce) (linJ n (partE kdF j0 i x t)) from by rw [hps]; exact (HE7.out.later hu).but (S := fun b => b = g) (but_setCells (S := fun b => b = g) (b := g) rfl _ _ _ _ (But.refl _ _)) (fun b hb => by cases hb; exact fun e => hne e.symm))
            have bt78 : But (fun b => b = g) W7 w8 := by rw [hps]; exact (But.of_bl hu).trans (but_setCells (S := fun b => b = g) (b := g) rfl _ _ _ _ (But.refl _ _))
            have bt8 : But (fun b => b = g ∨ b = ge) w5 w8 := bt7.trans (bt78.mono fun _ h => .inl h)
            have kw8 : FBox w8 (w.heap.size + 1) x := kw7.but bt78 (by have := hglt; have := bws; omega)
            have ky8 : FBox w8 w7.heap.size y := ky7.but bt78 (by have := hgl7; omega)
            have CE8 := hideP (show ∀ j u, (cellsF ei)[j]? = some u → w8.cell? ⟨ge, i * 3 + j, none⟩ = some u from fun j u hu => by
              obtain ⟨g', c', e, _, _, _, _, hc⟩ := HE8.out
              simp only [Value.slice.injEq, Option.some.injEq, Addr.mk.injEq] at e
              obtain ⟨⟨rfl, _⟩, _, rfl⟩ := e
              exact hc i ei (by rw [linJ_get _ hlt, partE_at, HEIQ.out]) j u hu)
            have FE8 := hideP (show ∀ j, w8.frozen? ⟨ge, j, none⟩ = false from fun j => by
              obtain ⟨g', c', e, _, _, _, hf, _⟩ := HE8.out
              simp only [Value.slice.injEq, Option.some.injEq, Addr.mk.injEq] at e
              obtain ⟨⟨rfl, _⟩, _, rfl⟩ := e
              exact hf j)
            have hgel8 : ge < w8.heap.size := HE8.out.glt
            clear hps hu PUT CE FG CG km7 kd7 kc7 kw7 ky7
            go_wp2_with fail
            refine (wpIn_wide (n := 8)).1 (region_q fm [some 71, some 72, some 73, some 74, some 75, some 76, some 77, some 78, some 79, some 80, some 81, some 82, some 83, none] (fun _ => false) 13 (by kernel_rfl) (by rfl)
                      (fun j v u => match j with | 0 => v = .slice (some ⟨ge, 0, none⟩) n ce | 1 => v = .int .i64 i | 2 => v = .slice (some ⟨ge, 0, none⟩) n ce | 3 => v = .int .i64 i | 4 => v = .pointer (some ⟨ge, i * 3, none⟩) | 5 => v = frV ei | 6 => v = .iface 34 (frV ei) | 7 => v = frV y | 8 => v = .iface 34 (frV y) | 9 => v = frV x | 10 => v = frV yx | 11 => v = frV en | 12 => v = .pointer (some ⟨ge, i * 3, none⟩) | _ => False)
                      (fun j v u u' _ h => h) (fun vs u0 u => u = u0.setCells ge (i * 3) (cellsF en)) ?step ?still ?store ?fin)
            case step =>
              intro j o t act u ho hdt hpu hsz hu hfr hin
              have hj : j < 14 := (Array.getElem?_eq_some_iff.1 ho).1
              have ee0 : u.cell? ⟨ge, i * 3, none⟩ = some (.int .i64 ei.n) := (bl_cell hu _ _ hgel8).trans (CE8.out 0 _ rfl)
              have fe0 : u.frozen? ⟨ge, i * 3, none⟩ = false := (bl_froz hu _ _ hgel8).trans (FE8.out _)
              have ee1 : u.cell? ⟨ge, i * 3 + 1, none⟩ = some (.int .i64 ei.d) := (bl_cell hu _ _ hgel8).trans (CE8.out 1 _ rfl)
              have fe1 : u.frozen? ⟨ge, i * 3 + 1, none⟩ = false := (bl_froz hu _ _ hgel8).trans (FE8.out _)
              have ee2 : u.cell? ⟨ge, i * 3 + 2, none⟩ = some (.bool ei.bad) := (bl_cell hu _ _ hgel8).trans (CE8.out 2 _ rfl)
              have fe2 : u.frozen? ⟨ge, i * 3 + 2, none⟩ = false := (bl_froz hu _ _ hgel8).trans (FE8.out _)
              rcases (by omega : j = 0 ∨ j = 1 ∨ j = 2 ∨ j = 3 ∨ j = 4 ∨ j = 5 ∨ j = 6 ∨ j = 7 ∨ j = 8 ∨ j = 9 ∨ j = 10 ∨ j = 11 ∨ j = 12 ∨ j = 13) with rfl | rfl | rfl | rfl | rfl | rfl | rfl | rfl | rfl | rfl | rfl | rfl | rfl | rfl
              · simp only [List.getElem?_toArray, List.getElem?_cons_zero, List.getElem?_cons_succ, Option.some.injEq] at ho
                subst ho
                obtain rfl := Option.some.inj hdt
                have i1 : act.eval (.tmp (1 : Nat)) = .slice (some ⟨ge, 0, none⟩) n ce := hfr 1 (by decide)
                exact plain_wp (by intro c h; cases h) (fun _ _ => trivial) (by simp only [execOp, i1, evalC, evalF, evalG]; simp [go_sem, hlt]) ⟨_, rfl, rfl, Bl.refl _⟩
              · simp only [List.getElem?_toArray, List.getElem?_cons_zero, List.getElem?_cons_succ, Option.some.injEq] at ho
                subst ho
                obtain rfl := Option.some.inj hdt
                have i14 : act.eval (.tmp (14 : Nat)) = .int .i64 i := hfr 14 (by decide)
                exact plain_wp (by intro c h; cases h) (fun _ _ => trivial) (by simp only [execOp, i14, evalC, evalF, evalG]; simp [go_sem, hlt]) ⟨_, rfl, rfl, Bl.refl _⟩
              · simp only [List.getElem?_toArray, List.getElem?_cons_zero, List.getElem?_cons_succ, Option.some.injEq] at ho
                subst ho
                obtain rfl := Option.some.inj hdt
                have i1 : act.eval (.tmp (1 : Nat)) = .slice (some ⟨ge, 0, none⟩) n ce := hfr 1 (by decide)
                exact plain_wp (by intro c h; cases h) (fun _ _ => trivial) (by simp only [execOp, i1, evalC, evalF, evalG]; simp [go_sem, hlt]) ⟨_, rfl, rfl, Bl.refl _⟩
              · simp only [List.getElem?_toArray, List.getElem?_cons_zero, List.getElem?_cons_succ, Option.some.injEq] at ho
                subst ho
                obtain rfl := Option.some.inj hdt
                have i14 : act.eval (.tmp (14 : Nat)) = .int .i64 i := hfr 14 (by decide)
                exact plain_wp (by intro c h; cases h) (fun _ _ => trivial) (by simp only [execOp, i14, evalC, evalF, evalG]; simp [go_sem, hlt]) ⟨_, rfl, rfl, Bl.refl _⟩
              · simp only [List.getElem?_toArray, List.getElem?_cons_zero, List.getElem?_cons_succ, Option.some.injEq] at ho
                subst ho
                obtain rfl := Option.some.inj hdt
                have i73 : (act.eval (.tmp (73 : Nat))) = .slice (some ⟨ge, 0, none⟩) n ce := hin ⟨2, .data⟩ (by simp) rfl 73 rfl
                have i74 : (act.eval (.tmp (74 : Nat))) = .int .i64 i := hin ⟨3, .data⟩ (by simp) rfl 74 rfl
                exact plain_wp (by intro c h; cases h) (fun _ _ => trivial) (by simp only [execOp, i73, i74, evalC, evalF, evalG]; simp [go_sem, hlt, ee0, ee1, ee2]) ⟨_, rfl, rfl, Bl.refl _⟩
              · simp only [List.getElem?_toArray, List.getElem?_cons_zero, List.getElem?_cons_succ, Option.some.injEq] at ho
                subst ho
                obtain rfl := Option.some.inj hdt
                have i75 : (act.eval (.tmp (75 : Nat))) = .pointer (some ⟨ge, i * 3, none⟩) := hin ⟨4, .data⟩ (by simp) rfl 75 rfl
                exact plain_wp (by intro c h; cases h) (fun _ _ => trivial) (by simp only [execOp, i75, evalC, evalF, evalG]; simp [go_sem, ee0, ee1, ee2]) ⟨_, rfl, rfl, Bl.refl _⟩
              · simp only [List.getElem?_toArray, List.getElem?_cons_zero, List.getElem?_cons_succ, Option.some.injEq] at ho
                subst ho
                obtain rfl := Option.some.inj hdt
                have i76 : (act.eval (.tmp (76 : Nat))) = frV ei := hin ⟨5, .data⟩ (by simp) rfl 76 rfl
                exact plain_wp (by intro c h; cases h) (fun _ _ => trivial) (by simp only [execOp, i76, evalC, evalF, evalG]; simp [go_sem]) ⟨_, rfl, rfl, Bl.refl _⟩
              · simp only [List.getElem?_toArray, List.getElem?_cons_zero, List.getElem?_cons_succ, Option.some.injEq] at ho
                subst ho
                obtain rfl := Option.some.inj hdt
                have i15 : act.eval (.tmp (15 : Nat)) = .pointer (some ⟨w7.heap.size, 0, none⟩) := hfr 15 (by decide)
                obtain ⟨c0, c1, c2, f0, f1, f2, _⟩ := ky8.later hu
                exact plain_wp (by intro c h; cases h) (fun _ _ => trivial) (by simp only [execOp, i15, evalC, evalF, evalG]; simp [go_sem, c0, c1, c2]) ⟨_, rfl, rfl, Bl.refl _⟩
              · simp only [List.getElem?_toArray, List.getElem?_cons_zero, List.getElem?_cons_succ, Option.some.injEq] at ho
                subst ho
                obtain rfl := Option.some.inj hdt
                have i78 : (act.eval (.tmp (78 : Nat))) = frV y := hin ⟨7, .data⟩ (by simp) rfl 78 rfl
                exact plain_wp (by intro c h; cases h) (fun _ _ => trivial) (by simp only [execOp, i78, evalC, evalF, evalG]; simp [go_sem]) ⟨_, rfl, rfl, Bl.refl _⟩
              · simp only [List.getElem?_toArray, List.getElem?_cons_zero, List.getElem?_cons_succ, Option.some.injEq] at ho
                subst ho
                obtain rfl := Option.some.inj hdt
                have i8 : act.eval (.tmp (8 : Nat)) = .pointer (some ⟨w.heap.size + 1, 0, none⟩) := hfr 8 (by decide)
                obtain ⟨c0, c1, c2, f0, f1, f2, _⟩ := kw8.later hu
                exact plain_wp (by intro c h; cases h) (fun _ _ => trivial) (by simp only [execOp, i8, evalC, evalF, evalG]; simp [go_sem, c0, c1, c2]) ⟨_, rfl, rfl, Bl.refl _⟩
              · simp only [List.getElem?_toArray, List.getElem?_cons_zero, List.getElem?_cons_succ, Option.some.injEq] at ho
                subst ho
                obtain rfl := Option.some.inj hdt
                have i79 : (act.eval (.tmp (79 : Nat))) = .iface 34 (frV y) := hin ⟨8, .data⟩ (by simp) rfl 79 rfl
                have i80 : (act.eval (.tmp (80 : Nat))) = frV x := hin ⟨9, .data⟩ (by simp) rfl 80 rfl
                have iv := Tryz.mMulF
                refine enter_wp 187 #[frV y, frV x] (by intro c h; cases h) (fun _ _ => trivial) (by simp only [execOp, evalC, evalF, evalG, resolve, i79, i80, List.map_toArray, List.map_cons, List.map_nil]; simp [invoke, iv, egM, Result.andThen, go_sem]) (by intro h; cases h) (callsIn_wide.2 (HYX.out u)) ?_
                rintro e w' ⟨rfl, hb⟩
                exact ⟨_, rfl, _, rfl, rfl, hb⟩
              · simp only [List.getElem?_toArray, List.getElem?_cons_zero, List.getElem?_cons_succ, Option.some.injEq] at ho
                subst ho
                obtain rfl := Option.some.inj hdt
                have i77 : (act.eval (.tmp (77 : Nat))) = .iface 34 (frV ei) := hin ⟨6, .data⟩ (by simp) rfl 77 rfl
                have i81 : (act.eval (.tmp (81 : Nat))) = frV yx := hin ⟨10, .data⟩ (by simp) rfl 81 rfl
                have iv := Tryz.mAddF
                refine enter_wp 184 #[frV ei, frV yx] (by intro c h; cases h) (fun _ _ => trivial) (by simp only [execOp, evalC, evalF, evalG, resolve, i77, i81, List.map_toArray, List.map_cons, List.map_nil]; simp [invoke, iv, egA, Result.andThen, go_sem]) (by intro h; cases h) (callsIn_wide.2 (HEN.out u)) ?_
                rintro e w' ⟨rfl, hb⟩
                exact ⟨_, rfl, _, rfl, rfl, hb⟩
              · simp only [List.getElem?_toArray, List.getElem?_cons_zero, List.getElem?_cons_succ, Option.some.injEq] at ho
                subst ho
                obtain rfl := Option.some.inj hdt
                have i71 : (act.eval (.tmp (71 : Nat))) = .slice (some ⟨ge, 0, none⟩) n ce := hin ⟨0, .data⟩ (by simp) rfl 71 rfl
                have i72 : (act.eval (.tmp (72 : Nat))) = .int .i64 i := hin ⟨1, .data⟩ (by simp) rfl 72 rfl
                exact plain_wp (by intro c h; cases h) (fun _ _ => trivial) (by simp only [execOp, i71, i72, evalC, evalF, evalG]; simp [go_sem, hlt, ee0, ee1, ee2]) ⟨_, rfl, rfl, Bl.refl _⟩
              · simp only [List.getElem?_toArray, List.getElem?_cons_zero, List.getElem?_cons_succ, Option.some.injEq] at ho
                subst ho
                cases hdt
            case still =>
              intro j o t act u0 u ho hdt hpu
              cases hpu
            case store =>
              intro o act u vs ho hsz hu hfr hin
              simp only [List.getElem?_toArray, List.getElem?_cons_zero, List.getElem?_cons_succ, Option.some.injEq] at ho
              subst ho
              obtain ⟨i82, k82⟩ : act.eval (.tmp (82 : Nat)) = vs 11 ∧ ((vs 11) = frV en) := hin 11 82 rfl rfl
              obtain ⟨i83, k83⟩ : act.eval (.tmp (83 : Nat)) = vs 12 ∧ ((vs 12) = .pointer (some ⟨ge, i * 3, none⟩)) := hin 12 83 rfl rfl
              have ee0 : u.cell? ⟨ge, i * 3, none⟩ = some (.int .i64 ei.n) := (bl_cell hu _ _ hgel8).trans (CE8.out 0 _ rfl)
              have fe0 : u.frozen? ⟨ge, i * 3, none⟩ = false := (bl_froz hu _ _ hgel8).trans (FE8.out _)
              have ee1 : u.cell? ⟨ge, i * 3 + 1, none⟩ = some (.int .i64 ei.d) := (bl_cell hu _ _ hgel8).trans (CE8.out 1 _ rfl)
              have fe1 : u.frozen? ⟨ge, i * 3 + 1, none⟩ = false := (bl_froz hu _ _ hgel8).trans (FE8.out _)
              have ee2 : u.cell? ⟨ge, i * 3 + 2, none⟩ = some (.bool ei.bad) := (bl_cell hu _ _ hgel8).trans (CE8.out 2 _ rfl)
              have fe2 : u.frozen? ⟨ge, i * 3 + 2, none⟩ = false := (bl_froz hu _ _ hgel8).trans (FE8.out _)
              replace i83 := i83.trans k83
              replace i82 := i82.trans k82
              exact skip_wp (by intro c h; cases h) (fun _ _ => trivial) (by simp only [execOp, i83, i82]; simp [go_sem, ee0, fe0, ee1, fe1, ee2, fe2]; rfl) ⟨rfl, rfl⟩
            case fin =>
              intro vs vb u0 u hu hin hps
              have a0 := hin 0 71 rfl
              have a1 := hin 1 72 rfl
              have a2 := hin 2 73 rfl
              have a3 := hin 3 74 rfl
              have a4 := hin 4 75 rfl
              have a5 := hin 5 76 rfl
              have a6 := hin 6 77 rfl
              have a7 := hin 7 78 rfl
              have a8 := hin 8 79 rfl
              have a9 := hin 9 80 rfl
              have a10 := hin 10 81 rfl
              have a11 := hin 11 82 rfl
              have a12 := hin 12 83 rfl
              simp only [putL, Act.put, List.setIfInBounds_toArray, List.set_cons_zero, List.set_cons_succ, Nat.zero_add, Nat.reduceAdd, Nat.reduceBEq, Bool.or_false, Bool.or_true, Bool.false_or, Bool.true_or, Bool.false_eq_true, if_false, if_true, reduceIte, Nat.reduceEqDiff, beq_self_eq_true, Bool.or_self] at a0 a1 a2 a3 a4 a5 a6 a7 a8 a9 a10 a11 a12 ⊢
              rw [if_pos (by decide)] at hps
              simp only [a0, a1, a2, a3, a4, a5, a6, a7, a8, a9, a10, a11, a12]
              have hie : i < (linJ n (partE kdF j0 i x t)).length := by rw [linJ_len]; exact hlt
              have PUT9 := hideP ((HE8.out.later hu).putAt cellsF_len hie en)
              rw [linJ_set9F _ hlt, ← hps] at PUT9
              have HS9 := hideP (show RwZ 3 cellsF u lo (.slice (some ⟨g, 0, none⟩) N cap) (mk n n (partS kdF j0 (i + 1) x t)) from by rw [hps]; exact (HS8.out.later hu).but (S := fun b => b = ge) (but_setCells (S := fun b => b = ge) (b := ge) rfl _ _ _ _ (But.refl _ _)) (fun b hb => by cases hb; exact hne))
              have bt9 : But (fun b => b = g ∨ b = ge) w5 u := by rw [hps]; exact bt8.trans ((But.of_bl hu).trans ((but_setCells (S := fun b => b = ge) (b := ge) rfl _ _ _ _ (But.refl _ _)).mono fun _ h => .inr h))
              clear hps hu
              go_wp2
              go_roundw
              case rel => exact ⟨i + 1, by simp, by omega, by omega, HS9.out, by rw [show partE kdF j0 (i + 1) x t = fun r => if r = i then en else partE kdF j0 i x t r from by funext r; rw [partE_next kdF hji, HENQ.out]]; exact PUT9.out, bt9⟩
              case measure => simp [intOf]; omega
        · obtain rfl : i = n := by omega
          obtain ⟨m0', m1', m2', _, _, _, _⟩ := id mb
          have kb9 : FBox wr b11 bb := (kb.later b15').but bt (by have := hglt; have := hgelt; have := lt11; omega)
          have kz9 : FBox wr (w.heap.size + 1 + 1 + 1) zeroR := (kz.later b5).but bt (by have := hglt; have := hgelt; omega)
          obtain ⟨c0, c1, c2, f0, f1, f2, _⟩ := id kb9
          obtain ⟨d0, d1, d2, g0, g1, g2, _⟩ := id kz9
          go_wp2
          simp [bodyPost, results, Tryz.results115, go_sem, c0, c1, c2, f0, f1, f2, d0, d1, d2, g0, g1, g2]
          exact ⟨HR.out.but (butRF _ _ _ _ _) (fun b hb => by cases hb; show ¬ g = w.heap.size + 1 + 1 + 1; omega), HE.out.but (butRF _ _ _ _ _) (fun b hb => by cases hb; show ¬ ge = w.heap.size + 1 + 1 + 1; omega), ((But.of_bl (b0.trans b5)).trans bt).put (butRF _ _ _ _ _) (by omega)⟩
end Go.Proofs.YtljmggemdkfbiaaGreat
