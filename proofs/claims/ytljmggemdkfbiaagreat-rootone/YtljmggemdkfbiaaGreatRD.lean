/- Contract of root's shares (layer 10). Written by genRo.py. -/
import Derived.Test.YtljmggemdkfbiaaGreatHsM
import Derived.Test.YtljmggemdkfbiaaGreatRB
import Derived.Test.YtljmggemdkfbiaaGreatRC
import Derived.Test.YtljmggemdkfbiaaGreatVeHF
import Derived.Test.YtljmggemdkfbiaaGreatRA
import Derived.Test.YtljmggemdkfbiaaGreatRfv
import Derived.Test.YtljmggemdkfbiaaGreatVeR
/- Where a fold's triangle is fine, in fractions, its square is the square of what was folded (layer 8, HouseExact). Mathematics alone. -/
namespace Go.Proofs.YtljmggemdkfbiaaGreat
open Go.RowKit
set_option linter.unusedSimpArgs false
set_option linter.unusedVariables false

end Go.Proofs.YtljmggemdkfbiaaGreat

/- Contracts of house's away, less, of fractions (layer 8). Written by genHu.py. -/
namespace Go.Proofs.YtljmggemdkfbiaaGreat
open Go.RowKit Go.Shelf
set_option linter.unusedSimpArgs false
set_option linter.unusedVariables false
attribute [local go_sem] Oper.semAt_some

end Go.Proofs.YtljmggemdkfbiaaGreat

/- Contract of house's less, of fractions (layer 8). Written by genHu.py. -/
namespace Go.Proofs.YtljmggemdkfbiaaGreat
open Go.RowKit Go.Shelf
set_option linter.unusedSimpArgs false
set_option linter.unusedVariables false
attribute [local go_sem] Oper.semAt_some

end Go.Proofs.YtljmggemdkfbiaaGreat

/- Contract of house's fold, of fractions (layer 8). Written by genHu.py. -/
namespace Go.Proofs.YtljmggemdkfbiaaGreat
open Go.RowKit Go.Shelf
set_option linter.unusedSimpArgs false
set_option linter.unusedVariables false
attribute [local go_sem] Oper.semAt_some

theorem FBox.but {w w' : World} {b : Nat} {x : Fr} {S : Nat → Prop} (h : FBox w b x) (k : But S w w') (hs : ¬ S b) : FBox w' b x := by
  obtain ⟨c0, c1, c2, f0, f1, f2, lt⟩ := h
  refine ⟨(k.cell _ _ lt hs).trans c0, (k.cell _ _ lt hs).trans c1, (k.cell _ _ lt hs).trans c2, (k.froz _ _ lt hs).trans f0, (k.froz _ _ lt hs).trans f1, (k.froz _ _ lt hs).trans f2, Nat.lt_of_lt_of_le lt k.size⟩
theorem Tryz.sizeF : (Tryz.prog.info? 34).map (·.size) = some 3 := by kernel_rfl
end Go.Proofs.YtljmggemdkfbiaaGreat

/- Contract of root's change, of fractions (layer 10). Written by genRo.py. -/
namespace Go.Proofs.YtljmggemdkfbiaaGreat
open Go.RowKit
set_option linter.unusedSimpArgs false
set_option linter.unusedVariables false

theorem butRF (u : World) (b : Nat) (v0 v1 v2 : Value) : But (fun i => i = b) u ((((u.setCell ⟨b, 0, none⟩ v0).setCell ⟨b, 1, none⟩ v1).setCell ⟨b, 2, none⟩ v2)) := (((but_cell1 (S := fun i => i = b) rfl _ _ _).trans (but_cell1 (S := fun i => i = b) rfl _ _ _)).trans (but_cell1 (S := fun i => i = b) rfl _ _ _))
theorem linJ_set9F {n i : Nat} (f : Nat → Fr) (hi : i < n) (y : Fr) : (linJ n f).set i y = linJ n (fun r => if r = i then y else f r) := by
  refine List.ext_getElem? fun k => ?_
  rw [List.getElem?_set]
  by_cases hk : k < n
  · rw [linJ_get _ hk, linJ_get _ hk]
    by_cases e : i = k
    · subst e
      simp [linJ_len, hi]
    · rw [if_neg e, if_neg (fun h => e h.symm)]
  · rw [if_neg (by omega)]
    rw [List.getElem?_eq_none (by rw [linJ_len]; omega), List.getElem?_eq_none (by rw [linJ_len]; omega)]
set_option maxRecDepth 100000 in
set_option maxHeartbeats 8000000 in
theorem rChangeF (n N g cap ge ce j0 lo : Nat) (t : StO Fr) (x : Fr) (w : World) (hd : Dim n n) (hN : N = n * n) (h : RwZ 3 cellsF w lo (.slice (some ⟨g, 0, none⟩) N cap) (mk n n t.s)) (he : RwZ 3 cellsF w lo (.slice (some ⟨ge, 0, none⟩) n ce) (linJ n t.e)) (hne : g ≠ ge) (hj0 : j0 < n) :
    Calls Tryz.prog 115 #[mV n n (some ⟨g, 0, none⟩) N cap, .slice (some ⟨ge, 0, none⟩) n ce, .int .i64 j0, frV x, frV t.a] w fun e w' => e = .returned (frV (bO kdF t.a x)) ∧ RwZ 3 cellsF w' lo (.slice (some ⟨g, 0, none⟩) N cap) (mk n n (stepO kdF n j0 x t).s) ∧ RwZ 3 cellsF w' lo (.slice (some ⟨ge, 0, none⟩) n ce) (linJ n (stepO kdF n j0 x t).e) ∧ But (fun b => b = g ∨ b = ge) w w' := by
  have fm : Tryz.prog.follows .mixedOrders = true := by kernel_rfl
  have egT := enters_of Tryz.func113 (by kernel_rfl) rfl
  have egA := enters_of Tryz.func184 (by kernel_rfl) rfl
  have egS := enters_of Tryz.func192 (by kernel_rfl) rfl
  have egM := enters_of Tryz.func187 (by kernel_rfl) rfl
  have egD := enters_of Tryz.func185 (by kernel_rfl) rfl
  have egR := enters_of Tryz.func190 (by kernel_rfl) rfl
  have mvD := Tryz.mDivF
  have mvR := Tryz.mRootF
  have hn16 := hd.r2
  have HN := hideP hN
  have HD := hideP hd
  obtain ⟨av, hav⟩ : ∃ y, y = t.a := ⟨_, rfl⟩
  obtain ⟨ww, hww⟩ : ∃ y, y = mulR x x := ⟨_, rfl⟩
  obtain ⟨bb, hbb⟩ : ∃ y, y = addR av ww := ⟨_, rfl⟩
  obtain ⟨q1, hq1⟩ : ∃ y, y = divR av bb := ⟨_, rfl⟩
  obtain ⟨dd, hdd⟩ : ∃ y, y = rootR q1 := ⟨_, rfl⟩
  obtain ⟨ab, hab⟩ : ∃ y, y = mulR av bb := ⟨_, rfl⟩
  obtain ⟨rt, hrt⟩ : ∃ y, y = rootR ab := ⟨_, rfl⟩
  obtain ⟨cc, hcc⟩ : ∃ y, y = divR x rt := ⟨_, rfl⟩
  have HWW := hideP (fun u => by have := rmul_any x x u; rw [← hww] at this; exact this)
  have HBB := hideP (fun u => by have := radd_any av ww u; rw [← hbb] at this; exact this)
  have HQ1 := hideP (fun u => by have := rdiv_any av bb u; rw [← hq1] at this; exact this)
  have HD1 := hideP (fun u => by have := rroot_any q1 u; rw [← hdd] at this; exact this)
  have HAB := hideP (fun u => by have := rmul_any av bb u; rw [← hab] at this; exact this)
  have HRT := hideP (fun u => by have := rroot_any ab u; rw [← hrt] at this; exact this)
  have HCC := hideP (fun u => by have := rdiv_any x rt u; rw [← hcc] at this; exact this)
  have HAV := hideP hav
  have HBO := hideP (show bO kdF t.a x = bb from by rw [hbb, hww, hav]; rfl)
  have HDD := hideP (show dd = dO kdF av x from by rw [hdd, hq1, hbb, hww]; rfl)
  have HCCQ := hideP (show cc = cO kdF av x from by rw [hcc, hrt, hab, hbb, hww]; rfl)
  rw [HBO.out, ← hav]
  clear hav hww hbb hq1 hdd hab hrt hcc
  obtain ⟨W, hW⟩ : ∃ W, W = (((w.alloc (.cells #[.int .i64 n, .int .i64 n, .slice (some ⟨g, 0, none⟩) N cap] 30)).alloc (.cells #[.int .i64 x.n, .int .i64 x.d, .bool x.bad] 34)).alloc (.cells #[.int .i64 av.n, .int .i64 av.d, .bool av.bad] 34)).alloc (.cells #[.int .i64 0, .int .i64 0, .bool false] 34) := ⟨_, rfl⟩
  have b0 : Bl w W := by rw [hW]; exact ((((Bl.refl _).alloc _).alloc _).alloc _).alloc _
  have m0 : MBox W w.heap.size n n (some ⟨g, 0, none⟩) N cap := by rw [hW]; exact (MBox.new w _ _ _ _ _ _).later ((((Bl.refl _).alloc _).alloc _).alloc _)
  have kw : FBox W (w.heap.size + 1) x := by rw [hW]; have := (FBox.new (w.alloc (.cells #[.int .i64 n, .int .i64 n, .slice (some ⟨g, 0, none⟩) N cap] 30)) x 34).later (((Bl.refl _).alloc (.cells #[.int .i64 av.n, .int .i64 av.d, .bool av.bad] 34)).alloc (.cells #[.int .i64 0, .int .i64 0, .bool false] 34)); simp only [World.size_alloc] at this; exact this
  have ka : FBox W (w.heap.size + 1 + 1) av := by rw [hW]; have := (FBox.new ((w.alloc (.cells #[.int .i64 n, .int .i64 n, .slice (some ⟨g, 0, none⟩) N cap] 30)).alloc (.cells #[.int .i64 x.n, .int .i64 x.d, .bool x.bad] 34)) av 34).later ((Bl.refl _).alloc (.cells #[.int .i64 0, .int .i64 0, .bool false] 34)); simp only [World.size_alloc] at this; exact this
  have kz : FBox W (w.heap.size + 1 + 1 + 1) zeroR := by rw [hW]; have := (FBox.new (((w.alloc (.cells #[.int .i64 n, .int .i64 n, .slice (some ⟨g, 0, none⟩) N cap] 30)).alloc (.cells #[.int .i64 x.n, .int .i64 x.d, .bool x.bad] 34)).alloc (.cells #[.int .i64 av.n, .int .i64 av.d, .bool av.bad] 34)) zeroR 34); simp only [World.size_alloc] at this; exact this
  have hWs : W.heap.size = w.heap.size + 1 + 1 + 1 + 1 := by rw [hW]; simp
  have hglt := h.glt
  have hgelt := he.glt
  have H0 := hideP (h.later b0)
  have E0 := hideP (he.later b0)
  have HW := hideP hW
  clear hW h he hd hN
  go_enter Tryz.func115, Tryz.ntmps115
  go_wp2_with fail
  try simp only [World.size_alloc]
  rw [← HW.out]
  refine (wpIn_wide (n := 8)).1 (region_q fm [some 16, some 17, some 18, some 19, some 20, some 21, some 22, some 11, none] (fun _ => false) 8 (by kernel_rfl) (by rfl)
      (fun j v u => match j with | 0 => v = frV av | 1 => v = .iface 34 (frV av) | 2 => v = frV x | 3 => v = .iface 34 (frV x) | 4 => v = frV x | 5 => v = frV ww | 6 => v = frV bb | 7 => ∃ b, v = .pointer (some ⟨b, 0, none⟩) ∧ W.heap.size ≤ b ∧ FBox u b zeroR | _ => False)
      (by
        intro j v u u' hb h
        split at h <;> first | exact h | (obtain ⟨b, e, h1, h2⟩ := h; exact ⟨b, e, h1, h2.later hb⟩) | (obtain ⟨q, c, e, h1⟩ := h; exact ⟨q, c, e, h1.later hb⟩)) (fun vs u0 u => ∃ b, vs 7 = .pointer (some ⟨b, 0, none⟩) ∧ W.heap.size ≤ b ∧ FBox u b bb ∧ Bl W u) ?step ?still ?store ?fin)
  case step =>
    intro j o t act u ho hdt hpu hsz hu hfr hin
    have hj : j < 9 := (Array.getElem?_eq_some_iff.1 ho).1
    skip
    rcases (by omega : j = 0 ∨ j = 1 ∨ j = 2 ∨ j = 3 ∨ j = 4 ∨ j = 5 ∨ j = 6 ∨ j = 7 ∨ j = 8) with rfl | rfl | rfl | rfl | rfl | rfl | rfl | rfl | rfl
    · simp only [List.getElem?_toArray, List.getElem?_cons_zero, List.getElem?_cons_succ, Option.some.injEq] at ho
      subst ho
      obtain rfl := Option.some.inj hdt
      have i9 : act.eval (.tmp (9 : Nat)) = .pointer (some ⟨w.heap.size + 1 + 1, 0, none⟩) := hfr 9 (by decide)
      obtain ⟨c0, c1, c2, f0, f1, f2, _⟩ := ka.later hu
      exact plain_wp (by intro c h; cases h) (fun _ _ => trivial) (by simp only [execOp, i9, evalC, evalF, evalG]; simp [go_sem, c0, c1, c2]) ⟨_, rfl, rfl, Bl.refl _⟩
    · simp only [List.getElem?_toArray, List.getElem?_cons_zero, List.getElem?_cons_succ, Option.some.injEq] at ho
      subst ho
      obtain rfl := Option.some.inj hdt
      have i16 : (act.eval (.tmp (16 : Nat))) = frV av := hin ⟨0, .data⟩ (by simp) rfl 16 rfl
      exact plain_wp (by intro c h; cases h) (fun _ _ => trivial) (by simp only [execOp, i16, evalC, evalF, evalG]; simp [go_sem]) ⟨_, rfl, rfl, Bl.refl _⟩
    · simp only [List.getElem?_toArray, List.getElem?_cons_zero, List.getElem?_cons_succ, Option.some.injEq] at ho
      subst ho
      obtain rfl := Option.some.inj hdt
      have i8 : act.eval (.tmp (8 : Nat)) = .pointer (some ⟨w.heap.size + 1, 0, none⟩) := hfr 8 (by decide)
      obtain ⟨c0, c1, c2, f0, f1, f2, _⟩ := kw.later hu
      exact plain_wp (by intro c h; cases h) (fun _ _ => trivial) (by simp only [execOp, i8, evalC, evalF, evalG]; simp [go_sem, c0, c1, c2]) ⟨_, rfl, rfl, Bl.refl _⟩
    · simp only [List.getElem?_toArray, List.getElem?_cons_zero, List.getElem?_cons_succ, Option.some.injEq] at ho
      subst ho
      obtain rfl := Option.some.inj hdt
      have i18 : (act.eval (.tmp (18 : Nat))) = frV x := hin ⟨2, .data⟩ (by simp) rfl 18 rfl
      exact plain_wp (by intro c h; cases h) (fun _ _ => trivial) (by simp only [execOp, i18, evalC, evalF, evalG]; simp [go_sem]) ⟨_, rfl, rfl, Bl.refl _⟩
    · simp only [List.getElem?_toArray, List.getElem?_cons_zero, List.getElem?_cons_succ, Option.some.injEq] at ho
      subst ho
      obtain rfl := Option.some.inj hdt
      have i8 : act.eval (.tmp (8 : Nat)) = .pointer (some ⟨w.heap.size + 1, 0, none⟩) := hfr 8 (by decide)
      obtain ⟨c0, c1, c2, f0, f1, f2, _⟩ := kw.later hu
      exact plain_wp (by intro c h; cases h) (fun _ _ => trivial) (by simp only [execOp, i8, evalC, evalF, evalG]; simp [go_sem, c0, c1, c2]) ⟨_, rfl, rfl, Bl.refl _⟩
    · simp only [List.getElem?_toArray, List.getElem?_cons_zero, List.getElem?_cons_succ, Option.some.injEq] at ho
      subst ho
      obtain rfl := Option.some.inj hdt
      have i19 : (act.eval (.tmp (19 : Nat))) = .iface 34 (frV x) := hin ⟨3, .data⟩ (by simp) rfl 19 rfl
      have i20 : (act.eval (.tmp (20 : Nat))) = frV x := hin ⟨4, .data⟩ (by simp) rfl 20 rfl
      have iv := Tryz.mMulF
      refine enter_wp 187 #[frV x, frV x] (by intro c h; cases h) (fun _ _ => trivial) (by simp only [execOp, evalC, evalF, evalG, resolve, i19, i20, List.map_toArray, List.map_cons, List.map_nil]; simp [invoke, iv, egM, Result.andThen, go_sem]) (by intro h; cases h) (callsIn_wide.2 (HWW.out u)) ?_
      rintro e w' ⟨rfl, hb⟩
      exact ⟨_, rfl, _, rfl, rfl, hb⟩
    · simp only [List.getElem?_toArray, List.getElem?_cons_zero, List.getElem?_cons_succ, Option.some.injEq] at ho
      subst ho
      obtain rfl := Option.some.inj hdt
      have i17 : (act.eval (.tmp (17 : Nat))) = .iface 34 (frV av) := hin ⟨1, .data⟩ (by simp) rfl 17 rfl
      have i21 : (act.eval (.tmp (21 : Nat))) = frV ww := hin ⟨5, .data⟩ (by simp) rfl 21 rfl
      have iv := Tryz.mAddF
      refine enter_wp 184 #[frV av, frV ww] (by intro c h; cases h) (fun _ _ => trivial) (by simp only [execOp, evalC, evalF, evalG, resolve, i17, i21, List.map_toArray, List.map_cons, List.map_nil]; simp [invoke, iv, egA, Result.andThen, go_sem]) (by intro h; cases h) (callsIn_wide.2 (HBB.out u)) ?_
      rintro e w' ⟨rfl, hb⟩
      exact ⟨_, rfl, _, rfl, rfl, hb⟩
    · simp only [List.getElem?_toArray, List.getElem?_cons_zero, List.getElem?_cons_succ, Option.some.injEq] at ho
      subst ho
      obtain rfl := Option.some.inj hdt
      exact plain_wp (by intro c h; cases h) (fun _ _ => trivial) (w' := u.alloc (.cells #[.int .i64 0, .int .i64 0, .bool false] 34)) (v := .pointer (some ⟨u.heap.size, 0, none⟩)) (by simp only [execOp]; simp [go_sem]) ⟨_, rfl, ⟨u.heap.size, rfl, hu.size, FBox.new u zeroR _⟩, (Bl.refl _).alloc _⟩
    · simp only [List.getElem?_toArray, List.getElem?_cons_zero, List.getElem?_cons_succ, Option.some.injEq] at ho
      subst ho
      cases hdt
  case still =>
    intro j o t act u0 u ho hdt hpu
    cases hpu
  case store =>
    intro o act u vs ho hsz hu hfr hin
    simp only [List.getElem?_toArray, List.getElem?_cons_zero, List.getElem?_cons_succ, Option.some.injEq] at ho
    subst ho
    obtain ⟨i11, k11⟩ : act.eval (.tmp (11 : Nat)) = vs 7 ∧ (∃ b, (vs 7) = .pointer (some ⟨b, 0, none⟩) ∧ W.heap.size ≤ b ∧ FBox u b zeroR) := hin 7 11 rfl rfl
    obtain ⟨i22, k22⟩ : act.eval (.tmp (22 : Nat)) = vs 6 ∧ ((vs 6) = frV bb) := hin 6 22 rfl rfl
    obtain ⟨b, e1, hb, bx⟩ := k11
    rw [e1] at i11
    replace i22 := i22.trans k22
    obtain ⟨c0, c1, c2, f0, f1, f2, ltb⟩ := id bx
    exact skip_wp (by intro c h; cases h) (fun _ _ => trivial) (by simp only [execOp, i11, i22]; simp [go_sem, zeroR, c0, c1, c2, f0, f1, f2]) ⟨rfl, b, e1, hb, bx.fill _, Bl.set3 hu hb _ _ _⟩
  case fin =>
    intro vs vb u0 u hu hin hps
    have a0 := hin 0 16 rfl
    have a1 := hin 1 17 rfl
    have a2 := hin 2 18 rfl
    have a3 := hin 3 19 rfl
    have a4 := hin 4 20 rfl
    have a5 := hin 5 21 rfl
    have a6 := hin 6 22 rfl
    have a7 := hin 7 11 rfl
    simp only [putL, Act.put, List.setIfInBounds_toArray, List.set_cons_zero, List.set_cons_succ, Nat.zero_add, Nat.reduceAdd, Nat.reduceBEq, Bool.or_false, Bool.or_true, Bool.false_or, Bool.true_or, Bool.false_eq_true, if_false, if_true, reduceIte, Nat.reduceEqDiff, beq_self_eq_true, Bool.or_self] at a0 a1 a2 a3 a4 a5 a6 a7 ⊢
    rw [if_pos (by decide)] at hps
    simp only [a0, a1, a2, a3, a4, a5, a6]
    obtain ⟨b11, eb, hb11, kb, hbu⟩ := hps
    simp only [eb]
    obtain ⟨w1, rfl⟩ : ∃ w1, w1 = u := ⟨_, rfl⟩
    have b1 : Bl W w1 := hbu
    have lt11 : W.heap.size ≤ b11 := hb11
    clear hin hu a0 a1 a2 a3 a4 a5 a6
    obtain ⟨c0, c1, c2, f0, f1, f2, _⟩ := ka.later b1
    obtain ⟨d0, d1, d2, g0, g1, g2, _⟩ := kb
    have kb : FBox w1 b11 bb := ⟨d0, d1, d2, g0, g1, g2, by assumption⟩
    go_wp2_with fail
    refine (HQ1.out _).mono ?_
    rintro e w2 ⟨rfl, h2⟩
    clear c0 c1 c2 f0 f1 f2 d0 d1 d2 g0 g1 g2
    go_wp2_with fail
    refine (HD1.out _).mono ?_
    rintro e w2' ⟨rfl, h2'⟩
    obtain ⟨w3, hw3⟩ : ∃ w3, w3 = w2'.alloc (.cells #[.int .i64 dd.n, .int .i64 dd.d, .bool dd.bad] 34) := ⟨_, rfl⟩
    have b2a : Bl w2' w3 := by rw [hw3]; exact (Bl.refl _).alloc _
    have kd : FBox w3 w2'.heap.size dd := by rw [hw3]; exact FBox.new w2' dd _
    have b13 : Bl w1 w3 := (h2.trans h2').trans b2a
    have b3 : Bl W w3 := b1.trans b13
    obtain ⟨b12, hb12⟩ : ∃ b12, b12 = w2'.heap.size := ⟨_, rfl⟩
    have lt12 : W.heap.size ≤ b12 := by rw [hb12]; have := (b1.trans (h2.trans h2')).size; omega
    have HW3 := hideP hw3
    clear hw3
    go_wp2_with fail
    rw [← HW3.out, ← hb12]
    rw [← hb12] at kd
    clear hb12
    refine (wpIn_wide (n := 8)).1 (region_q fm [some 29, some 30, some 31, some 32, some 33, some 34, some 35, some 36, some 37, some 13, none] (fun _ => false) 10 (by kernel_rfl) (by rfl)
          (fun j v u => match j with | 0 => v = frV x | 1 => v = .iface 34 (frV x) | 2 => v = frV av | 3 => v = .iface 34 (frV av) | 4 => v = frV bb | 5 => v = frV ab | 6 => v = .iface 34 (frV ab) | 7 => v = frV rt | 8 => v = frV cc | 9 => ∃ b, v = .pointer (some ⟨b, 0, none⟩) ∧ w3.heap.size ≤ b ∧ FBox u b zeroR | _ => False)
          (by
            intro j v u u' hb h
            split at h <;> first | exact h | (obtain ⟨b, e, h1, h2⟩ := h; exact ⟨b, e, h1, h2.later hb⟩) | (obtain ⟨q, c, e, h1⟩ := h; exact ⟨q, c, e, h1.later hb⟩)) (fun vs u0 u => ∃ b, vs 9 = .pointer (some ⟨b, 0, none⟩) ∧ w3.heap.size ≤ b ∧ FBox u b cc ∧ Bl w3 u) ?step ?still ?store ?fin)
    case step =>
      intro j o t act u ho hdt hpu hsz hu hfr hin
      have hj : j < 11 := (Array.getElem?_eq_some_iff.1 ho).1
      skip
      rcases (by omega : j = 0 ∨ j = 1 ∨ j = 2 ∨ j = 3 ∨ j = 4 ∨ j = 5 ∨ j = 6 ∨ j = 7 ∨ j = 8 ∨ j = 9 ∨ j = 10) with rfl | rfl | rfl | rfl | rfl | rfl | rfl | rfl | rfl | rfl | rfl
      · simp only [List.getElem?_toArray, List.getElem?_cons_zero, List.getElem?_cons_succ, Option.some.injEq] at ho
        subst ho
        obtain rfl := Option.some.inj hdt
        have i8 : act.eval (.tmp (8 : Nat)) = .pointer (some ⟨w.heap.size + 1, 0, none⟩) := hfr 8 (by decide)
        obtain ⟨c0, c1, c2, f0, f1, f2, _⟩ := kw.later (b3.trans hu)
        exact plain_wp (by intro c h; cases h) (fun _ _ => trivial) (by simp only [execOp, i8, evalC, evalF, evalG]; simp [go_sem, c0, c1, c2]) ⟨_, rfl, rfl, Bl.refl _⟩
      · simp only [List.getElem?_toArray, List.getElem?_cons_zero, List.getElem?_cons_succ, Option.some.injEq] at ho
        subst ho
        obtain rfl := Option.some.inj hdt
        have i29 : (act.eval (.tmp (29 : Nat))) = frV x := hin ⟨0, .data⟩ (by simp) rfl 29 rfl
        exact plain_wp (by intro c h; cases h) (fun _ _ => trivial) (by simp only [execOp, i29, evalC, evalF, evalG]; simp [go_sem]) ⟨_, rfl, rfl, Bl.refl _⟩
      · simp only [List.getElem?_toArray, List.getElem?_cons_zero, List.getElem?_cons_succ, Option.some.injEq] at ho
        subst ho
        obtain rfl := Option.some.inj hdt
        have i9 : act.eval (.tmp (9 : Nat)) = .pointer (some ⟨w.heap.size + 1 + 1, 0, none⟩) := hfr 9 (by decide)
        obtain ⟨c0, c1, c2, f0, f1, f2, _⟩ := ka.later (b3.trans hu)
        exact plain_wp (by intro c h; cases h) (fun _ _ => trivial) (by simp only [execOp, i9, evalC, evalF, evalG]; simp [go_sem, c0, c1, c2]) ⟨_, rfl, rfl, Bl.refl _⟩
      · simp only [List.getElem?_toArray, List.getElem?_cons_zero, List.getElem?_cons_succ, Option.some.injEq] at ho
        subst ho
        obtain rfl := Option.some.inj hdt
        have i31 : (act.eval (.tmp (31 : Nat))) = frV av := hin ⟨2, .data⟩ (by simp) rfl 31 rfl
        exact plain_wp (by intro c h; cases h) (fun _ _ => trivial) (by simp only [execOp, i31, evalC, evalF, evalG]; simp [go_sem]) ⟨_, rfl, rfl, Bl.refl _⟩
      · simp only [List.getElem?_toArray, List.getElem?_cons_zero, List.getElem?_cons_succ, Option.some.injEq] at ho
        subst ho
        obtain rfl := Option.some.inj hdt
        have i11 : act.eval (.tmp (11 : Nat)) = .pointer (some ⟨b11, 0, none⟩) := hfr 11 (by decide)
        obtain ⟨c0, c1, c2, f0, f1, f2, _⟩ := kb.later (b13.trans hu)
        exact plain_wp (by intro c h; cases h) (fun _ _ => trivial) (by simp only [execOp, i11, evalC, evalF, evalG]; simp [go_sem, c0, c1, c2]) ⟨_, rfl, rfl, Bl.refl _⟩
      · simp only [List.getElem?_toArray, List.getElem?_cons_zero, List.getElem?_cons_succ, Option.some.injEq] at ho
        subst ho
        obtain rfl := Option.some.inj hdt
        have i32 : (act.eval (.tmp (32 : Nat))) = .iface 34 (frV av) := hin ⟨3, .data⟩ (by simp) rfl 32 rfl
        have i33 : (act.eval (.tmp (33 : Nat))) = frV bb := hin ⟨4, .data⟩ (by simp) rfl 33 rfl
        have iv := Tryz.mMulF
        refine enter_wp 187 #[frV av, frV bb] (by intro c h; cases h) (fun _ _ => trivial) (by simp only [execOp, evalC, evalF, evalG, resolve, i32, i33, List.map_toArray, List.map_cons, List.map_nil]; simp [invoke, iv, egM, Result.andThen, go_sem]) (by intro h; cases h) (callsIn_wide.2 (HAB.out u)) ?_
        rintro e w' ⟨rfl, hb⟩
        exact ⟨_, rfl, _, rfl, rfl, hb⟩
      · simp only [List.getElem?_toArray, List.getElem?_cons_zero, List.getElem?_cons_succ, Option.some.injEq] at ho
        subst ho
        obtain rfl := Option.some.inj hdt
        have i34 : (act.eval (.tmp (34 : Nat))) = frV ab := hin ⟨5, .data⟩ (by simp) rfl 34 rfl
        exact plain_wp (by intro c h; cases h) (fun _ _ => trivial) (by simp only [execOp, i34, evalC, evalF, evalG]; simp [go_sem]) ⟨_, rfl, rfl, Bl.refl _⟩
      · simp only [List.getElem?_toArray, List.getElem?_cons_zero, List.getElem?_cons_succ, Option.some.injEq] at ho
        subst ho
        obtain rfl := Option.some.inj hdt
        have i35 : (act.eval (.tmp (35 : Nat))) = .iface 34 (frV ab) := hin ⟨6, .data⟩ (by simp) rfl 35 rfl
        have iv := Tryz.mRootF
        refine enter_wp 190 #[frV ab] (by intro c h; cases h) (fun _ _ => trivial) (by simp only [execOp, evalC, evalF, evalG, resolve, i35, List.map_toArray, List.map_cons, List.map_nil]; simp [invoke, iv, egR, Result.andThen, go_sem]) (by intro h; cases h) (callsIn_wide.2 (HRT.out u)) ?_
        rintro e w' ⟨rfl, hb⟩
        exact ⟨_, rfl, _, rfl, rfl, hb⟩
      · simp only [List.getElem?_toArray, List.getElem?_cons_zero, List.getElem?_cons_succ, Option.some.injEq] at ho
        subst ho
        obtain rfl := Option.some.inj hdt
        have i30 : (act.eval (.tmp (30 : Nat))) = .iface 34 (frV x) := hin ⟨1, .data⟩ (by simp) rfl 30 rfl
        have i36 : (act.eval (.tmp (36 : Nat))) = frV rt := hin ⟨7, .data⟩ (by simp) rfl 36 rfl
        have iv := Tryz.mDivF
        refine enter_wp 185 #[frV x, frV rt] (by intro c h; cases h) (fun _ _ => trivial) (by simp only [execOp, evalC, evalF, evalG, resolve, i30, i36, List.map_toArray, List.map_cons, List.map_nil]; simp [invoke, iv, egD, Result.andThen, go_sem]) (by intro h; cases h) (callsIn_wide.2 (HCC.out u)) ?_
        rintro e w' ⟨rfl, hb⟩
        exact ⟨_, rfl, _, rfl, rfl, hb⟩
      · simp only [List.getElem?_toArray, List.getElem?_cons_zero, List.getElem?_cons_succ, Option.some.injEq] at ho
        subst ho
        obtain rfl := Option.some.inj hdt
        exact plain_wp (by intro c h; cases h) (fun _ _ => trivial) (w' := u.alloc (.cells #[.int .i64 0, .int .i64 0, .bool false] 34)) (v := .pointer (some ⟨u.heap.size, 0, none⟩)) (by simp only [execOp]; simp [go_sem]) ⟨_, rfl, ⟨u.heap.size, rfl, hu.size, FBox.new u zeroR _⟩, (Bl.refl _).alloc _⟩
      · simp only [List.getElem?_toArray, List.getElem?_cons_zero, List.getElem?_cons_succ, Option.some.injEq] at ho
        subst ho
        cases hdt
    case still =>
      intro j o t act u0 u ho hdt hpu
      cases hpu
    case store =>
      intro o act u vs ho hsz hu hfr hin
      simp only [List.getElem?_toArray, List.getElem?_cons_zero, List.getElem?_cons_succ, Option.some.injEq] at ho
      subst ho
      obtain ⟨i13, k13⟩ : act.eval (.tmp (13 : Nat)) = vs 9 ∧ (∃ b, (vs 9) = .pointer (some ⟨b, 0, none⟩) ∧ w3.heap.size ≤ b ∧ FBox u b zeroR) := hin 9 13 rfl rfl
      obtain ⟨i37, k37⟩ : act.eval (.tmp (37 : Nat)) = vs 8 ∧ ((vs 8) = frV cc) := hin 8 37 rfl rfl
      obtain ⟨b, e1, hb, bx⟩ := k13
      rw [e1] at i13
      replace i37 := i37.trans k37
      obtain ⟨c0, c1, c2, f0, f1, f2, ltb⟩ := id bx
      exact skip_wp (by intro c h; cases h) (fun _ _ => trivial) (by simp only [execOp, i13, i37]; simp [go_sem, zeroR, c0, c1, c2, f0, f1, f2]) ⟨rfl, b, e1, hb, bx.fill _, Bl.set3 hu hb _ _ _⟩
    case fin =>
      intro vs vb u0 u hu hin hps
      have a0 := hin 0 29 rfl
      have a1 := hin 1 30 rfl
      have a2 := hin 2 31 rfl
      have a3 := hin 3 32 rfl
      have a4 := hin 4 33 rfl
      have a5 := hin 5 34 rfl
      have a6 := hin 6 35 rfl
      have a7 := hin 7 36 rfl
      have a8 := hin 8 37 rfl
      have a9 := hin 9 13 rfl
      simp only [putL, Act.put, List.setIfInBounds_toArray, List.set_cons_zero, List.set_cons_succ, Nat.zero_add, Nat.reduceAdd, Nat.reduceBEq, Bool.or_false, Bool.or_true, Bool.false_or, Bool.true_or, Bool.false_eq_true, if_false, if_true, reduceIte, Nat.reduceEqDiff, beq_self_eq_true, Bool.or_self] at a0 a1 a2 a3 a4 a5 a6 a7 a8 a9 ⊢
      rw [if_pos (by decide)] at hps
      simp only [a0, a1, a2, a3, a4, a5, a6, a7, a8]
      obtain ⟨b13', eb, hb13, kc, hbu⟩ := hps
      simp only [eb]
      obtain ⟨w5, rfl⟩ : ∃ w5, w5 = u := ⟨_, rfl⟩
      have b35 : Bl w3 w5 := hbu
      have b5 : Bl W w5 := b3.trans hbu
      have B5 : Bl W w5 := b5
      have b05 : Bl W W := Bl.refl _
      have b15' : Bl w1 w5 := b13.trans hbu
      have lt13 : w3.heap.size ≤ b13' := hb13
      have lt12 := lt12
      clear hin hu a0 a1 a2 a3 a4 a5 a6 a7 a8
      go_wp2_with fail
      go_loopw [14] (fun v wr => ∃ i : Nat, v = .int .i64 i ∧ j0 ≤ i ∧ i ≤ n ∧ RwZ 3 cellsF wr lo (.slice (some ⟨g, 0, none⟩) N cap) (mk n n (partS kdF j0 i x t)) ∧ RwZ 3 cellsF wr lo (.slice (some ⟨ge, 0, none⟩) n ce) (linJ n (partE kdF j0 i x t)) ∧ But (fun b => b = g ∨ b = ge) w5 wr) (fun v _ => n - (intOf v).toNat)
      case atStart => exact ⟨j0, rfl, Nat.le_refl _, by omega, by rw [partS_zero]; exact H0.out.later B5, by rw [partE_zero]; exact E0.out.later B5, But.refl _ _⟩
      case round =>
        obtain ⟨i, rfl, hji, hin, hr, he, bt⟩ := hrel
        have HR := hideP hr
        have HE := hideP he
        clear hr he
        have mb : MBox wr w.heap.size n n (some ⟨g, 0, none⟩) N cap := (m0.later b5).but bt (by have := hglt; have := hgelt; omega)
        by_cases hlt : i < n
        · obtain ⟨a, q, e1, e2, hq1, hq3, hq5, hq6⟩ := place HD.out hlt hj0
          rw [← HN.out] at hq5
          have HPQ := hideP e2
          clear e1 e2
          obtain ⟨y, hy⟩ : ∃ y, y = t.s i j0 := ⟨_, rfl⟩
          obtain ⟨ei, hei⟩ : ∃ y, y = t.e i := ⟨_, rfl⟩
          obtain ⟨yd, hyd⟩ : ∃ z, z = mulR y dd := ⟨_, rfl⟩
          obtain ⟨ec, hec⟩ : ∃ z, z = mulR ei cc := ⟨_, rfl⟩
          obtain ⟨sn, hsn⟩ : ∃ z, z = subR yd ec := ⟨_, rfl⟩
          obtain ⟨yx, hyx⟩ : ∃ z, z = mulR y x := ⟨_, rfl⟩
          obtain ⟨en, hen⟩ : ∃ z, z = addR ei yx := ⟨_, rfl⟩
          have HSNQ := hideP (show sO kdF t.a x (t.s i j0) (t.e i) = sn from by rw [hsn, hyd, hec, hy, hei, HDD.out, HCCQ.out, HAV.out]; rfl)
          have HENQ := hideP (show kdF.add (t.e i) (kdF.mul (t.s i j0) x) = en from by rw [hen, hyx, hy, hei]; rfl)
          have HEIQ := hideP hei
          have AT := hideP (fun u (hu : Bl wr u) => by have := mAtF n n (some ⟨g, 0, none⟩) N cap (partS kdF j0 i x t) u ⟨HD.out, HN.out, (HR.out.later hu).rw.q⟩ i j0 hlt hj0; rw [partS_at, ← hy] at this; exact this)
          have HYD := hideP (fun u => by have := rmul_any y dd u; rw [← hyd] at this; exact this)
          have HEC := hideP (fun u => by have := rmul_any ei cc u; rw [← hec] at this; exact this)
          have HSN := hideP (fun u => by have := rsub_any yd ec u; rw [← hsn] at this; exact this)
          have HYX := hideP (fun u => by have := rmul_any y x u; rw [← hyx] at this; exact this)
          have HEN := hideP (fun u => by have := radd_any ei yx u; rw [← hen] at this; exact this)
          have HYQ := hideP hy
          clear hy hei hyd hec hsn hyx hen
          obtain ⟨m0', m1', m2', _, _, _, _⟩ := id mb
          go_wp2_with fail
          refine (AT.out _ (Bl.refl _)).mono ?_
          rintro e w7 ⟨rfl, h7⟩
          clear m0' m1' m2'
          obtain ⟨W7, hW7⟩ : ∃ W7, W7 = w7.alloc (.cells #[.int .i64 y.n, .int .i64 y.d, .bool y.bad] 34) := ⟨_, rfl⟩
          have b7 : Bl w7 W7 := by rw [hW7]; exact (Bl.refl _).alloc _
          have ky7 : FBox W7 w7.heap.size y := by rw [hW7]; exact FBox.new w7 y _
          have b7r : Bl wr W7 := h7.trans b7
          have hgl7 : g < w7.heap.size := Nat.lt_of_lt_of_le HR.out.glt h7.size
          have bt7 : But (fun b => b = g ∨ b = ge) w5 W7 := bt.trans (But.of_bl b7r)
          have km7 := mb.later b7r
          have kw7 : FBox W7 (w.heap.size + 1) x := ((kw.later b5).but bt (by have := hglt; have := hgelt; omega)).later b7r
          have kd7 : FBox W7 b12 dd := ((kd.later b35).but bt (by have := hglt; have := hgelt; have := lt12; omega)).later b7r
          have kc7 : FBox W7 b13' cc := (kc.but bt (by have := hglt; have := hgelt; have := lt13; have := b3.size; omega)).later b7r
          have HR7 := hideP (HR.out.later b7r)
          have HE7 := hideP (HE.out.later b7r)
          have hgl : g < W7.heap.size := HR7.out.glt
          have hgel : ge < W7.heap.size := HE7.out.glt
          have bws : w.heap.size + 1 + 1 + 1 + 1 ≤ w5.heap.size := by have := (b05.trans b5).size; omega
          have CG := hideP (show ∀ j u, (cellsF y)[j]? = some u → W7.cell? ⟨g, q * 3 + j, none⟩ = some u from fun j u hu => by
            obtain ⟨g', c', e, _, _, _, _, hc⟩ := HR7.out
            cases e
            exact hc q y (by rw [HPQ.out, mk_get _ hlt hj0, partS_at, HYQ.out]) j u hu)
          have FG := hideP (show ∀ j, W7.frozen? ⟨g, j, none⟩ = false from fun j => by
            obtain ⟨g', c', e, _, _, _, hf, _⟩ := HR7.out
            cases e
            exact hf j)
          have CE := hideP (show ∀ j u, (cellsF ei)[j]? = some u → W7.cell? ⟨ge, i * 3 + j, none⟩ = some u from fun j u hu => by
            obtain ⟨g', c', e, _, _, _, _, hc⟩ := HE7.out
            simp only [Value.slice.injEq, Option.some.injEq, Addr.mk.injEq] at e
            obtain ⟨⟨rfl, _⟩, _, rfl⟩ := e
            exact hc i ei (by rw [linJ_get _ hlt, partE_at, HEIQ.out]) j u hu)
          have WA : IntKind.i64.wrap (a : Int) = a := wrapS7 (by omega) (by have := HD.out.lt; have := HN.out; omega)
          have WQ : IntKind.i64.wrap (q : Int) = q := wrapS7 (by omega) (by have := HD.out.lt; have := HN.out; omega)
          have HW7 := hideP hW7
          clear hW7
          go_wp2_with fail
          rw [← HW7.out]
          refine (wpIn_wide (n := 8)).1 (region_q fm [some 49, some 50, some 51, some 52, some 53, some 54, some 55, some 56, some 57, some 58, some 59, some 60, some 61, some 62, some 63, some 64, some 65, some 66, some 67, some 68, some 69, some 70, none] (fun _ => false) 22 (by kernel_rfl) (by rfl)
              (fun j v u => match j with | 0 => v = .pointer (some ⟨w.heap.size, 2, none⟩) | 1 => v = .slice (some ⟨g, 0, none⟩) N cap | 2 => v = .int .i64 i | 3 => v = .pointer (some ⟨w.heap.size, 1, none⟩) | 4 => v = .int .i64 n | 5 => v = .int .i64 a | 6 => v = .int .i64 j0 | 7 => v = .int .i64 q | 8 => v = frV y | 9 => v = .iface 34 (frV y) | 10 => v = frV dd | 11 => v = frV yd | 12 => v = .iface 34 (frV yd) | 13 => v = .slice (some ⟨ge, 0, none⟩) n ce | 14 => v = .int .i64 i | 15 => v = .pointer (some ⟨ge, i * 3, none⟩) | 16 => v = frV ei | 17 => v = .iface 34 (frV ei) | 18 => v = frV cc | 19 => v = frV ec | 20 => v = frV sn | 21 => v = .pointer (some ⟨g, q * 3, none⟩) | _ => False)
              (fun j v u u' _ h => h) (fun vs u0 u => u = u0.setCells g (q * 3) (cellsF sn)) ?step ?still ?store ?fin)
          case step =>
            intro j o t act u ho hdt hpu hsz hu hfr hin
            have hj : j < 23 := (Array.getElem?_eq_some_iff.1 ho).1
            obtain ⟨m0, m1, m2, _, _, _, _⟩ := km7.later hu
            have ee0 : u.cell? ⟨ge, i * 3, none⟩ = some (.int .i64 ei.n) := (bl_cell hu _ _ hgel).trans (CE.out 0 _ rfl)
            have ee1 : u.cell? ⟨ge, i * 3 + 1, none⟩ = some (.int .i64 ei.d) := (bl_cell hu _ _ hgel).trans (CE.out 1 _ rfl)
            have ee2 : u.cell? ⟨ge, i * 3 + 2, none⟩ = some (.bool ei.bad) := (bl_cell hu _ _ hgel).trans (CE.out 2 _ rfl)
            have gg0 : u.cell? ⟨g, q * 3, none⟩ = some (.int .i64 y.n) := (bl_cell hu _ _ hgl).trans (CG.out 0 _ rfl)
            have fg0 : u.frozen? ⟨g, q * 3, none⟩ = false := (bl_froz hu _ _ hgl).trans (FG.out _)
            have gg1 : u.cell? ⟨g, q * 3 + 1, none⟩ = some (.int .i64 y.d) := (bl_cell hu _ _ hgl).trans (CG.out 1 _ rfl)
            have fg1 : u.frozen? ⟨g, q * 3 + 1, none⟩ = false := (bl_froz hu _ _ hgl).trans (FG.out _)
            have gg2 : u.cell? ⟨g, q * 3 + 2, none⟩ = some (.bool y.bad) := (bl_cell hu _ _ hgl).trans (CG.out 2 _ rfl)
            have fg2 : u.frozen? ⟨g, q * 3 + 2, none⟩ = false := (bl_froz hu _ _ hgl).trans (FG.out _)
            rcases (by omega : j = 0 ∨ j = 1 ∨ j = 2 ∨ j = 3 ∨ j = 4 ∨ j = 5 ∨ j = 6 ∨ j = 7 ∨ j = 8 ∨ j = 9 ∨ j = 10 ∨ j = 11 ∨ j = 12 ∨ j = 13 ∨ j = 14 ∨ j = 15 ∨ j = 16 ∨ j = 17 ∨ j = 18 ∨ j = 19 ∨ j = 20 ∨ j = 21 ∨ j = 22) with rfl | rfl | rfl | rfl | rfl | rfl | rfl | rfl | rfl | rfl | rfl | rfl | rfl | rfl | rfl | rfl | rfl | rfl | rfl | rfl | rfl | rfl | rfl
            · simp only [List.getElem?_toArray, List.getElem?_cons_zero, List.getElem?_cons_succ, Option.some.injEq] at ho
              subst ho
              obtain rfl := Option.some.inj hdt
              have i5 : act.eval (.tmp (5 : Nat)) = .pointer (some ⟨w.heap.size, 0, none⟩) := hfr 5 (by decide)
              exact plain_wp (by intro c h; cases h) (fun _ _ => trivial) (by simp only [execOp, i5, evalC, evalF, evalG]; simp [go_sem, m0, m1, m2]) ⟨_, rfl, rfl, Bl.refl _⟩
            · simp only [List.getElem?_toArray, List.getElem?_cons_zero, List.getElem?_cons_succ, Option.some.injEq] at ho
              subst ho
              obtain rfl := Option.some.inj hdt
              have i49 : (act.eval (.tmp (49 : Nat))) = .pointer (some ⟨w.heap.size, 2, none⟩) := hin ⟨0, .data⟩ (by simp) rfl 49 rfl
              exact plain_wp (by intro c h; cases h) (fun _ _ => trivial) (by simp only [execOp, i49, evalC, evalF, evalG]; simp [go_sem, m0, m1, m2]) ⟨_, rfl, rfl, Bl.refl _⟩
            · simp only [List.getElem?_toArray, List.getElem?_cons_zero, List.getElem?_cons_succ, Option.some.injEq] at ho
              subst ho
              obtain rfl := Option.some.inj hdt
              have i14 : act.eval (.tmp (14 : Nat)) = .int .i64 i := hfr 14 (by decide)
              exact plain_wp (by intro c h; cases h) (fun _ _ => trivial) (by simp only [execOp, i14, evalC, evalF, evalG]; simp [go_sem, m0]) ⟨_, rfl, rfl, Bl.refl _⟩
            · simp only [List.getElem?_toArray, List.getElem?_cons_zero, List.getElem?_cons_succ, Option.some.injEq] at ho
              subst ho
              obtain rfl := Option.some.inj hdt
              have i5 : act.eval (.tmp (5 : Nat)) = .pointer (some ⟨w.heap.size, 0, none⟩) := hfr 5 (by decide)
              exact plain_wp (by intro c h; cases h) (fun _ _ => trivial) (by simp only [execOp, i5, evalC, evalF, evalG]; simp [go_sem, m0, m1, m2]) ⟨_, rfl, rfl, Bl.refl _⟩
            · simp only [List.getElem?_toArray, List.getElem?_cons_zero, List.getElem?_cons_succ, Option.some.injEq] at ho
              subst ho
              obtain rfl := Option.some.inj hdt
              have i52 : (act.eval (.tmp (52 : Nat))) = .pointer (some ⟨w.heap.size, 1, none⟩) := hin ⟨3, .data⟩ (by simp) rfl 52 rfl
              exact plain_wp (by intro c h; cases h) (fun _ _ => trivial) (by simp only [execOp, i52, evalC, evalF, evalG]; simp [go_sem, m0, m1, m2]) ⟨_, rfl, rfl, Bl.refl _⟩
            · simp only [List.getElem?_toArray, List.getElem?_cons_zero, List.getElem?_cons_succ, Option.some.injEq] at ho
              subst ho
              obtain rfl := Option.some.inj hdt
              have i51 : (act.eval (.tmp (51 : Nat))) = .int .i64 i := hin ⟨2, .data⟩ (by simp) rfl 51 rfl
              have i53 : (act.eval (.tmp (53 : Nat))) = .int .i64 n := hin ⟨4, .data⟩ (by simp) rfl 53 rfl
              exact plain_wp (by intro c h; cases h) (fun _ _ => trivial) (by simp only [execOp, i51, i53, evalC, evalF, evalG]; simp [go_sem, hq1, WA]) ⟨_, rfl, rfl, Bl.refl _⟩
            · simp only [List.getElem?_toArray, List.getElem?_cons_zero, List.getElem?_cons_succ, Option.some.injEq] at ho
              subst ho
              obtain rfl := Option.some.inj hdt
              have i2 : act.eval (.tmp (2 : Nat)) = .int .i64 j0 := hfr 2 (by decide)
              exact plain_wp (by intro c h; cases h) (fun _ _ => trivial) (by simp only [execOp, i2, evalC, evalF, evalG]; simp [go_sem, m0]) ⟨_, rfl, rfl, Bl.refl _⟩
            · simp only [List.getElem?_toArray, List.getElem?_cons_zero, List.getElem?_cons_succ, Option.some.injEq] at ho
              subst ho
              obtain rfl := Option.some.inj hdt
              have i54 : (act.eval (.tmp (54 : Nat))) = .int .i64 a := hin ⟨5, .data⟩ (by simp) rfl 54 rfl
              have i55 : (act.eval (.tmp (55 : Nat))) = .int .i64 j0 := hin ⟨6, .data⟩ (by simp) rfl 55 rfl
              exact plain_wp (by intro c h; cases h) (fun _ _ => trivial) (by simp only [execOp, i54, i55, evalC, evalF, evalG]; simp [go_sem, hq3, WQ]) ⟨_, rfl, rfl, Bl.refl _⟩
            · simp only [List.getElem?_toArray, List.getElem?_cons_zero, List.getElem?_cons_succ, Option.some.injEq] at ho
              subst ho
              obtain rfl := Option.some.inj hdt
              have i15 : act.eval (.tmp (15 : Nat)) = .pointer (some ⟨w7.heap.size, 0, none⟩) := hfr 15 (by decide)
              obtain ⟨c0, c1, c2, f0, f1, f2, _⟩ := ky7.later hu
              exact plain_wp (by intro c h; cases h) (fun _ _ => trivial) (by simp only [execOp, i15, evalC, evalF, evalG]; simp [go_sem, c0, c1, c2]) ⟨_, rfl, rfl, Bl.refl _⟩
            · simp only [List.getElem?_toArray, List.getElem?_cons_zero, List.getElem?_cons_succ, Option.some.injEq] at ho
              subst ho
              obtain rfl := Option.some.inj hdt
              have i57 : (act.eval (.tmp (57 : Nat))) = frV y := hin ⟨8, .data⟩ (by simp) rfl 57 rfl
              exact plain_wp (by intro c h; cases h) (fun _ _ => trivial) (by simp only [execOp, i57, evalC, evalF, evalG]; simp [go_sem]) ⟨_, rfl, rfl, Bl.refl _⟩
            · simp only [List.getElem?_toArray, List.getElem?_cons_zero, List.getElem?_cons_succ, Option.some.injEq] at ho
              subst ho
              obtain rfl := Option.some.inj hdt
              have i12 : act.eval (.tmp (12 : Nat)) = .pointer (some ⟨b12, 0, none⟩) := hfr 12 (by decide)
              obtain ⟨c0, c1, c2, f0, f1, f2, _⟩ := kd7.later hu
              exact plain_wp (by intro c h; cases h) (fun _ _ => trivial) (by simp only [execOp, i12, evalC, evalF, evalG]; simp [go_sem, c0, c1, c2]) ⟨_, rfl, rfl, Bl.refl _⟩
            · simp only [List.getElem?_toArray, List.getElem?_cons_zero, List.getElem?_cons_succ, Option.some.injEq] at ho
              subst ho
              obtain rfl := Option.some.inj hdt
              have i58 : (act.eval (.tmp (58 : Nat))) = .iface 34 (frV y) := hin ⟨9, .data⟩ (by simp) rfl 58 rfl
              have i59 : (act.eval (.tmp (59 : Nat))) = frV dd := hin ⟨10, .data⟩ (by simp) rfl 59 rfl
              have iv := Tryz.mMulF
              refine enter_wp 187 #[frV y, frV dd] (by intro c h; cases h) (fun _ _ => trivial) (by simp only [execOp, evalC, evalF, evalG, resolve, i58, i59, List.map_toArray, List.map_cons, List.map_nil]; simp [invoke, iv, egM, Result.andThen, go_sem]) (by intro h; cases h) (callsIn_wide.2 (HYD.out u)) ?_
              rintro e w' ⟨rfl, hb⟩
              exact ⟨_, rfl, _, rfl, rfl, hb⟩
            · simp only [List.getElem?_toArray, List.getElem?_cons_zero, List.getElem?_cons_succ, Option.some.injEq] at ho
              subst ho
              obtain rfl := Option.some.inj hdt
              have i60 : (act.eval (.tmp (60 : Nat))) = frV yd := hin ⟨11, .data⟩ (by simp) rfl 60 rfl
              exact plain_wp (by intro c h; cases h) (fun _ _ => trivial) (by simp only [execOp, i60, evalC, evalF, evalG]; simp [go_sem]) ⟨_, rfl, rfl, Bl.refl _⟩
            · simp only [List.getElem?_toArray, List.getElem?_cons_zero, List.getElem?_cons_succ, Option.some.injEq] at ho
              subst ho
              obtain rfl := Option.some.inj hdt
              have i1 : act.eval (.tmp (1 : Nat)) = .slice (some ⟨ge, 0, none⟩) n ce := hfr 1 (by decide)
              exact plain_wp (by intro c h; cases h) (fun _ _ => trivial) (by simp only [execOp, i1, evalC, evalF, evalG]; simp [go_sem, m0]) ⟨_, rfl, rfl, Bl.refl _⟩
            · simp only [List.getElem?_toArray, List.getElem?_cons_zero, List.getElem?_cons_succ, Option.some.injEq] at ho
              subst ho
              obtain rfl := Option.some.inj hdt
              have i14 : act.eval (.tmp (14 : Nat)) = .int .i64 i := hfr 14 (by decide)
              exact plain_wp (by intro c h; cases h) (fun _ _ => trivial) (by simp only [execOp, i14, evalC, evalF, evalG]; simp [go_sem, m0]) ⟨_, rfl, rfl, Bl.refl _⟩
            · simp only [List.getElem?_toArray, List.getElem?_cons_zero, List.getElem?_cons_succ, Option.some.injEq] at ho
              subst ho
              obtain rfl := Option.some.inj hdt
              have i62 : (act.eval (.tmp (62 : Nat))) = .slice (some ⟨ge, 0, none⟩) n ce := hin ⟨13, .data⟩ (by simp) rfl 62 rfl
              have i63 : (act.eval (.tmp (63 : Nat))) = .int .i64 i := hin ⟨14, .data⟩ (by simp) rfl 63 rfl
              exact plain_wp (by intro c h; cases h) (fun _ _ => trivial) (by simp only [execOp, i62, i63, evalC, evalF, evalG]; simp [go_sem, hlt, ee0, ee1, ee2]) ⟨_, rfl, rfl, Bl.refl _⟩
            · simp only [List.getElem?_toArray, List.getElem?_cons_zero, List.getElem?_cons_succ, Option.some.injEq] at ho
              subst ho
              obtain rfl := Option.some.inj hdt
              have i64 : (act.eval (.tmp (64 : Nat))) = .pointer (some ⟨ge, i * 3, none⟩) := hin ⟨15, .data⟩ (by simp) rfl 64 rfl
              exact plain_wp (by intro c h; cases h) (fun _ _ => trivial) (by simp only [execOp, i64, evalC, evalF, evalG]; simp [go_sem, ee0, ee1, ee2]) ⟨_, rfl, rfl, Bl.refl _⟩
            · simp only [List.getElem?_toArray, List.getElem?_cons_zero, List.getElem?_cons_succ, Option.some.injEq] at ho
              subst ho
              obtain rfl := Option.some.inj hdt
              have i65 : (act.eval (.tmp (65 : Nat))) = frV ei := hin ⟨16, .data⟩ (by simp) rfl 65 rfl
              exact plain_wp (by intro c h; cases h) (fun _ _ => trivial) (by simp only [execOp, i65, evalC, evalF, evalG]; simp [go_sem]) ⟨_, rfl, rfl, Bl.refl _⟩
            · simp only [List.getElem?_toArray, List.getElem?_cons_zero, List.getElem?_cons_succ, Option.some.injEq] at ho
              subst ho
              obtain rfl := Option.some.inj hdt
              have i13 : act.eval (.tmp (13 : Nat)) = .pointer (some ⟨b13', 0, none⟩) := hfr 13 (by decide)
              obtain ⟨c0, c1, c2, f0, f1, f2, _⟩ := kc7.later hu
              exact plain_wp (by intro c h; cases h) (fun _ _ => trivial) (by simp only [execOp, i13, evalC, evalF, evalG]; simp [go_sem, c0, c1, c2]) ⟨_, rfl, rfl, Bl.refl _⟩
            · simp only [List.getElem?_toArray, List.getElem?_cons_zero, List.getElem?_cons_succ, Option.some.injEq] at ho
              subst ho
              obtain rfl := Option.some.inj hdt
              have i66 : (act.eval (.tmp (66 : Nat))) = .iface 34 (frV ei) := hin ⟨17, .data⟩ (by simp) rfl 66 rfl
              have i67 : (act.eval (.tmp (67 : Nat))) = frV cc := hin ⟨18, .data⟩ (by simp) rfl 67 rfl
              have iv := Tryz.mMulF
              refine enter_wp 187 #[frV ei, frV cc] (by intro c h; cases h) (fun _ _ => trivial) (by simp only [execOp, evalC, evalF, evalG, resolve, i66, i67, List.map_toArray, List.map_cons, List.map_nil]; simp [invoke, iv, egM, Result.andThen, go_sem]) (by intro h; cases h) (callsIn_wide.2 (HEC.out u)) ?_
              rintro e w' ⟨rfl, hb⟩
              exact ⟨_, rfl, _, rfl, rfl, hb⟩
            · simp only [List.getElem?_toArray, List.getElem?_cons_zero, List.getElem?_cons_succ, Option.some.injEq] at ho
              subst ho
              obtain rfl := Option.some.inj hdt
              have i61 : (act.eval (.tmp (61 : Nat))) = .iface 34 (frV yd) := hin ⟨12, .data⟩ (by simp) rfl 61 rfl
              have i68 : (act.eval (.tmp (68 : Nat))) = frV ec := hin ⟨19, .data⟩ (by simp) rfl 68 rfl
              have iv := Tryz.mSubF
              refine enter_wp 192 #[frV yd, frV ec] (by intro c h; cases h) (fun _ _ => trivial) (by simp only [execOp, evalC, evalF, evalG, resolve, i61, i68, List.map_toArray, List.map_cons, List.map_nil]; simp [invoke, iv, egS, Result.andThen, go_sem]) (by intro h; cases h) (callsIn_wide.2 (HSN.out u)) ?_
              rintro e w' ⟨rfl, hb⟩
              exact ⟨_, rfl, _, rfl, rfl, hb⟩
            · simp only [List.getElem?_toArray, List.getElem?_cons_zero, List.getElem?_cons_succ, Option.some.injEq] at ho
              subst ho
              obtain rfl := Option.some.inj hdt
              have i50 : (act.eval (.tmp (50 : Nat))) = .slice (some ⟨g, 0, none⟩) N cap := hin ⟨1, .data⟩ (by simp) rfl 50 rfl
              have i56 : (act.eval (.tmp (56 : Nat))) = .int .i64 q := hin ⟨7, .data⟩ (by simp) rfl 56 rfl
              exact plain_wp (by intro c h; cases h) (fun _ _ => trivial) (by simp only [execOp, i50, i56, evalC, evalF, evalG]; simp [go_sem, hq5, gg0, fg0, gg1, fg1, gg2, fg2]) ⟨_, rfl, rfl, Bl.refl _⟩
            · simp only [List.getElem?_toArray, List.getElem?_cons_zero, List.getElem?_cons_succ, Option.some.injEq] at ho
              subst ho
              cases hdt
          case still =>
            intro j o t act u0 u ho hdt hpu
            cases hpu
          case store =>
            intro o act u vs ho hsz hu hfr hin
            simp only [List.getElem?_toArray, List.getElem?_cons_zero, List.getElem?_cons_succ, Option.some.injEq] at ho
            subst ho
            obtain ⟨i69, k69⟩ : act.eval (.tmp (69 : Nat)) = vs 20 ∧ ((vs 20) = frV sn) := hin 20 69 rfl rfl
            obtain ⟨i70, k70⟩ : act.eval (.tmp (70 : Nat)) = vs 21 ∧ ((vs 21) = .pointer (some ⟨g, q * 3, none⟩)) := hin 21 70 rfl rfl
            have gg0 : u.cell? ⟨g, q * 3, none⟩ = some (.int .i64 y.n) := (bl_cell hu _ _ hgl).trans (CG.out 0 _ rfl)
            have fg0 : u.frozen? ⟨g, q * 3, none⟩ = false := (bl_froz hu _ _ hgl).trans (FG.out _)
            have gg1 : u.cell? ⟨g, q * 3 + 1, none⟩ = some (.int .i64 y.d) := (bl_cell hu _ _ hgl).trans (CG.out 1 _ rfl)
            have fg1 : u.frozen? ⟨g, q * 3 + 1, none⟩ = false := (bl_froz hu _ _ hgl).trans (FG.out _)
            have gg2 : u.cell? ⟨g, q * 3 + 2, none⟩ = some (.bool y.bad) := (bl_cell hu _ _ hgl).trans (CG.out 2 _ rfl)
            have fg2 : u.frozen? ⟨g, q * 3 + 2, none⟩ = false := (bl_froz hu _ _ hgl).trans (FG.out _)
            replace i70 := i70.trans k70
            replace i69 := i69.trans k69
            exact skip_wp (by intro c h; cases h) (fun _ _ => trivial) (by simp only [execOp, i70, i69]; simp [go_sem, gg0, fg0, gg1, fg1, gg2, fg2]; rfl) ⟨rfl, rfl⟩
          case fin =>
            intro vs vb u0 u hu hin hps
            have a0 := hin 0 49 rfl
            have a1 := hin 1 50 rfl
            have a2 := hin 2 51 rfl
            have a3 := hin 3 52 rfl
            have a4 := hin 4 53 rfl
            have a5 := hin 5 54 rfl
            have a6 := hin 6 55 rfl
            have a7 := hin 7 56 rfl
            have a8 := hin 8 57 rfl
            have a9 := hin 9 58 rfl
            have a10 := hin 10 59 rfl
            have a11 := hin 11 60 rfl
            have a12 := hin 12 61 rfl
            have a13 := hin 13 62 rfl
            have a14 := hin 14 63 rfl
            have a15 := hin 15 64 rfl
            have a16 := hin 16 65 rfl
            have a17 := hin 17 66 rfl
            have a18 := hin 18 67 rfl
            have a19 := hin 19 68 rfl
            have a20 := hin 20 69 rfl
            have a21 := hin 21 70 rfl
            simp only [putL, Act.put, List.setIfInBounds_toArray, List.set_cons_zero, List.set_cons_succ, Nat.zero_add, Nat.reduceAdd, Nat.reduceBEq, Bool.or_false, Bool.or_true, Bool.false_or, Bool.true_or, Bool.false_eq_true, if_false, if_true, reduceIte, Nat.reduceEqDiff, beq_self_eq_true, Bool.or_self] at a0 a1 a2 a3 a4 a5 a6 a7 a8 a9 a10 a11 a12 a13 a14 a15 a16 a17 a18 a19 a20 a21 ⊢
            rw [if_pos (by decide)] at hps
            simp only [a0, a1, a2, a3, a4, a5, a6, a7, a8, a9, a10, a11, a12, a13, a14, a15, a16, a17, a18, a19, a20, a21]
            have hq' : q < (mk n n (partS kdF j0 i x t)).length := by rw [mk_len, ← HN.out]; exact hq5
            have PUT := hideP ((HR7.out.later hu).putAt cellsF_len hq' sn)
            rw [HPQ.out, mk_put hlt hj0, ← HPQ.out, ← hps] at PUT
            obtain ⟨w8, hw8⟩ : ∃ w8, w8 = u := ⟨_, rfl⟩
            subst hw8
            have HS8 := hideP (show RwZ 3 cellsF w8 lo (.slice (some ⟨g, 0, none⟩) N cap) (mk n n (partS kdF j0 (i + 1) x t)) from by rw [partS_next kdF hji, HSNQ.out]; exact PUT.out)
            have HE8 := hideP (show RwZ 3 cellsF w8 lo (.slice (some ⟨ge, 0, none⟩) n ce) (linJ n (partE kdF j0 i x t)) from by rw [hps]; exact (HE7.out.later hu).but (S := fun b => b = g) (but_setCells (S := fun b => b = g) (b := g) rfl _ _ _ _ (But.refl _ _)) (fun b hb => by cases hb; exact fun e => hne e.symm))
            have bt78 : But (fun b => b = g) W7 w8 := by rw [hps]; exact (But.of_bl hu).trans (but_setCells (S := fun b => b = g) (b := g) rfl _ _ _ _ (But.refl _ _))
            have bt8 : But (fun b => b = g ∨ b = ge) w5 w8 := bt7.trans (bt78.mono fun _ h => .inl h)
            have kw8 : FBox w8 (w.heap.size + 1) x := kw7.but bt78 (by have := hglt; have := bws; omega)
            have ky8 : FBox w8 w7.heap.size y := ky7.but bt78 (by have := hgl7; omega)
            have CE8 := hideP (show ∀ j u, (cellsF ei)[j]? = some u → w8.cell? ⟨ge, i * 3 + j, none⟩ = some u from fun j u hu => by
              obtain ⟨g', c', e, _, _, _, _, hc⟩ := HE8.out
              simp only [Value.slice.injEq, Option.some.injEq, Addr.mk.injEq] at e
              obtain ⟨⟨rfl, _⟩, _, rfl⟩ := e
              exact hc i ei (by rw [linJ_get _ hlt, partE_at, HEIQ.out]) j u hu)
            have FE8 := hideP (show ∀ j, w8.frozen? ⟨ge, j, none⟩ = false from fun j => by
              obtain ⟨g', c', e, _, _, _, hf, _⟩ := HE8.out
              simp only [Value.slice.injEq, Option.some.injEq, Addr.mk.injEq] at e
              obtain ⟨⟨rfl, _⟩, _, rfl⟩ := e
              exact hf j)
            have hgel8 : ge < w8.heap.size := HE8.out.glt
            clear hps hu PUT CE FG CG km7 kd7 kc7 kw7 ky7
            go_wp2_with fail
            refine (wpIn_wide (n := 8)).1 (region_q fm [some 71, some 72, some 73, some 74, some 75, some 76, some 77, some 78, some 79, some 80, some 81, some 82, some 83, none] (fun _ => false) 13 (by kernel_rfl) (by rfl)
                      (fun j v u => match j with | 0 => v = .slice (some ⟨ge, 0, none⟩) n ce | 1 => v = .int .i64 i | 2 => v = .slice (some ⟨ge, 0, none⟩) n ce | 3 => v = .int .i64 i | 4 => v = .pointer (some ⟨ge, i * 3, none⟩) | 5 => v = frV ei | 6 => v = .iface 34 (frV ei) | 7 => v = frV y | 8 => v = .iface 34 (frV y) | 9 => v = frV x | 10 => v = frV yx | 11 => v = frV en | 12 => v = .pointer (some ⟨ge, i * 3, none⟩) | _ => False)
                      (fun j v u u' _ h => h) (fun vs u0 u => u = u0.setCells ge (i * 3) (cellsF en)) ?step ?still ?store ?fin)
            case step =>
              intro j o t act u ho hdt hpu hsz hu hfr hin
              have hj : j < 14 := (Array.getElem?_eq_some_iff.1 ho).1
              have ee0 : u.cell? ⟨ge, i * 3, none⟩ = some (.int .i64 ei.n) := (bl_cell hu _ _ hgel8).trans (CE8.out 0 _ rfl)
              have fe0 : u.frozen? ⟨ge, i * 3, none⟩ = false := (bl_froz hu _ _ hgel8).trans (FE8.out _)
              have ee1 : u.cell? ⟨ge, i * 3 + 1, none⟩ = some (.int .i64 ei.d) := (bl_cell hu _ _ hgel8).trans (CE8.out 1 _ rfl)
              have fe1 : u.frozen? ⟨ge, i * 3 + 1, none⟩ = false := (bl_froz hu _ _ hgel8).trans (FE8.out _)
              have ee2 : u.cell? ⟨ge, i * 3 + 2, none⟩ = some (.bool ei.bad) := (bl_cell hu _ _ hgel8).trans (CE8.out 2 _ rfl)
              have fe2 : u.frozen? ⟨ge, i * 3 + 2, none⟩ = false := (bl_froz hu _ _ hgel8).trans (FE8.out _)
              rcases (by omega : j = 0 ∨ j = 1 ∨ j = 2 ∨ j = 3 ∨ j = 4 ∨ j = 5 ∨ j = 6 ∨ j = 7 ∨ j = 8 ∨ j = 9 ∨ j = 10 ∨ j = 11 ∨ j = 12 ∨ j = 13) with rfl | rfl | rfl | rfl | rfl | rfl | rfl | rfl | rfl | rfl | rfl | rfl | rfl | rfl
              · simp only [List.getElem?_toArray, List.getElem?_cons_zero, List.getElem?_cons_succ, Option.some.injEq] at ho
                subst ho
                obtain rfl := Option.some.inj hdt
                have i1 : act.eval (.tmp (1 : Nat)) = .slice (some ⟨ge, 0, none⟩) n ce := hfr 1 (by decide)
                exact plain_wp (by intro c h; cases h) (fun _ _ => trivial) (by simp only [execOp, i1, evalC, evalF, evalG]; simp [go_sem, hlt]) ⟨_, rfl, rfl, Bl.refl _⟩
              · simp only [List.getElem?_toArray, List.getElem?_cons_zero, List.getElem?_cons_succ, Option.some.injEq] at ho
                subst ho
                obtain rfl := Option.some.inj hdt
                have i14 : act.eval (.tmp (14 : Nat)) = .int .i64 i := hfr 14 (by decide)
                exact plain_wp (by intro c h; cases h) (fun _ _ => trivial) (by simp only [execOp, i14, evalC, evalF, evalG]; simp [go_sem, hlt]) ⟨_, rfl, rfl, Bl.refl _⟩
              · simp only [List.getElem?_toArray, List.getElem?_cons_zero, List.getElem?_cons_succ, Option.some.injEq] at ho
                subst ho
                obtain rfl := Option.some.inj hdt
                have i1 : act.eval (.tmp (1 : Nat)) = .slice (some ⟨ge, 0, none⟩) n ce := hfr 1 (by decide)
                exact plain_wp (by intro c h; cases h) (fun _ _ => trivial) (by simp only [execOp, i1, evalC, evalF, evalG]; simp [go_sem, hlt]) ⟨_, rfl, rfl, Bl.refl _⟩
              · simp only [List.getElem?_toArray, List.getElem?_cons_zero, List.getElem?_cons_succ, Option.some.injEq] at ho
                subst ho
                obtain rfl := Option.some.inj hdt
                have i14 : act.eval (.tmp (14 : Nat)) = .int .i64 i := hfr 14 (by decide)
                exact plain_wp (by intro c h; cases h) (fun _ _ => trivial) (by simp only [execOp, i14, evalC, evalF, evalG]; simp [go_sem, hlt]) ⟨_, rfl, rfl, Bl.refl _⟩
              · simp only [List.getElem?_toArray, List.getElem?_cons_zero, List.getElem?_cons_succ, Option.some.injEq] at ho
                subst ho
                obtain rfl := Option.some.inj hdt
                have i73 : (act.eval (.tmp (73 : Nat))) = .slice (some ⟨ge, 0, none⟩) n ce := hin ⟨2, .data⟩ (by simp) rfl 73 rfl
                have i74 : (act.eval (.tmp (74 : Nat))) = .int .i64 i := hin ⟨3, .data⟩ (by simp) rfl 74 rfl
                exact plain_wp (by intro c h; cases h) (fun _ _ => trivial) (by simp only [execOp, i73, i74, evalC, evalF, evalG]; simp [go_sem, hlt, ee0, ee1, ee2]) ⟨_, rfl, rfl, Bl.refl _⟩
              · simp only [List.getElem?_toArray, List.getElem?_cons_zero, List.getElem?_cons_succ, Option.some.injEq] at ho
                subst ho
                obtain rfl := Option.some.inj hdt
                have i75 : (act.eval (.tmp (75 : Nat))) = .pointer (some ⟨ge, i * 3, none⟩) := hin ⟨4, .data⟩ (by simp) rfl 75 rfl
                exact plain_wp (by intro c h; cases h) (fun _ _ => trivial) (by simp only [execOp, i75, evalC, evalF, evalG]; simp [go_sem, ee0, ee1, ee2]) ⟨_, rfl, rfl, Bl.refl _⟩
              · simp only [List.getElem?_toArray, List.getElem?_cons_zero, List.getElem?_cons_succ, Option.some.injEq] at ho
                subst ho
                obtain rfl := Option.some.inj hdt
                have i76 : (act.eval (.tmp (76 : Nat))) = frV ei := hin ⟨5, .data⟩ (by simp) rfl 76 rfl
                exact plain_wp (by intro c h; cases h) (fun _ _ => trivial) (by simp only [execOp, i76, evalC, evalF, evalG]; simp [go_sem]) ⟨_, rfl, rfl, Bl.refl _⟩
              · simp only [List.getElem?_toArray, List.getElem?_cons_zero, List.getElem?_cons_succ, Option.some.injEq] at ho
                subst ho
                obtain rfl := Option.some.inj hdt
                have i15 : act.eval (.tmp (15 : Nat)) = .pointer (some ⟨w7.heap.size, 0, none⟩) := hfr 15 (by decide)
                obtain ⟨c0, c1, c2, f0, f1, f2, _⟩ := ky8.later hu
                exact plain_wp (by intro c h; cases h) (fun _ _ => trivial) (by simp only [execOp, i15, evalC, evalF, evalG]; simp [go_sem, c0, c1, c2]) ⟨_, rfl, rfl, Bl.refl _⟩
              · simp only [List.getElem?_toArray, List.getElem?_cons_zero, List.getElem?_cons_succ, Option.some.injEq] at ho
                subst ho
                obtain rfl := Option.some.inj hdt
                have i78 : (act.eval (.tmp (78 : Nat))) = frV y := hin ⟨7, .data⟩ (by simp) rfl 78 rfl
                exact plain_wp (by intro c h; cases h) (fun _ _ => trivial) (by simp only [execOp, i78, evalC, evalF, evalG]; simp [go_sem]) ⟨_, rfl, rfl, Bl.refl _⟩
              · simp only [List.getElem?_toArray, List.getElem?_cons_zero, List.getElem?_cons_succ, Option.some.injEq] at ho
                subst ho
                obtain rfl := Option.some.inj hdt
                have i8 : act.eval (.tmp (8 : Nat)) = .pointer (some ⟨w.heap.size + 1, 0, none⟩) := hfr 8 (by decide)
                obtain ⟨c0, c1, c2, f0, f1, f2, _⟩ := kw8.later hu
                exact plain_wp (by intro c h; cases h) (fun _ _ => trivial) (by simp only [execOp, i8, evalC, evalF, evalG]; simp [go_sem, c0, c1, c2]) ⟨_, rfl, rfl, Bl.refl _⟩
              · simp only [List.getElem?_toArray, List.getElem?_cons_zero, List.getElem?_cons_succ, Option.some.injEq] at ho
                subst ho
                obtain rfl := Option.some.inj hdt
                have i79 : (act.eval (.tmp (79 : Nat))) = .iface 34 (frV y) := hin ⟨8, .data⟩ (by simp) rfl 79 rfl
                have i80 : (act.eval (.tmp (80 : Nat))) = frV x := hin ⟨9, .data⟩ (by simp) rfl 80 rfl
                have iv := Tryz.mMulF
                refine enter_wp 187 #[frV y, frV x] (by intro c h; cases h) (fun _ _ => trivial) (by simp only [execOp, evalC, evalF, evalG, resolve, i79, i80, List.map_toArray, List.map_cons, List.map_nil]; simp [invoke, iv, egM, Result.andThen, go_sem]) (by intro h; cases h) (callsIn_wide.2 (HYX.out u)) ?_
                rintro e w' ⟨rfl, hb⟩
                exact ⟨_, rfl, _, rfl, rfl, hb⟩
              · simp only [List.getElem?_toArray, List.getElem?_cons_zero, List.getElem?_cons_succ, Option.some.injEq] at ho
                subst ho
                obtain rfl := Option.some.inj hdt
                have i77 : (act.eval (.tmp (77 : Nat))) = .iface 34 (frV ei) := hin ⟨6, .data⟩ (by simp) rfl 77 rfl
                have i81 : (act.eval (.tmp (81 : Nat))) = frV yx := hin ⟨10, .data⟩ (by simp) rfl 81 rfl
                have iv := Tryz.mAddF
                refine enter_wp 184 #[frV ei, frV yx] (by intro c h; cases h) (fun _ _ => trivial) (by simp only [execOp, evalC, evalF, evalG, resolve, i77, i81, List.map_toArray, List.map_cons, List.map_nil]; simp [invoke, iv, egA, Result.andThen, go_sem]) (by intro h; cases h) (callsIn_wide.2 (HEN.out u)) ?_
                rintro e w' ⟨rfl, hb⟩
                exact ⟨_, rfl, _, rfl, rfl, hb⟩
              · simp only [List.getElem?_toArray, List.getElem?_cons_zero, List.getElem?_cons_succ, Option.some.injEq] at ho
                subst ho
                obtain rfl := Option.some.inj hdt
                have i71 : (act.eval (.tmp (71 : Nat))) = .slice (some ⟨ge, 0, none⟩) n ce := hin ⟨0, .data⟩ (by simp) rfl 71 rfl
                have i72 : (act.eval (.tmp (72 : Nat))) = .int .i64 i := hin ⟨1, .data⟩ (by simp) rfl 72 rfl
                exact plain_wp (by intro c h; cases h) (fun _ _ => trivial) (by simp only [execOp, i71, i72, evalC, evalF, evalG]; simp [go_sem, hlt, ee0, ee1, ee2]) ⟨_, rfl, rfl, Bl.refl _⟩
              · simp only [List.getElem?_toArray, List.getElem?_cons_zero, List.getElem?_cons_succ, Option.some.injEq] at ho
                subst ho
                cases hdt
            case still =>
              intro j o t act u0 u ho hdt hpu
              cases hpu
            case store =>
              intro o act u vs ho hsz hu hfr hin
              simp only [List.getElem?_toArray, List.getElem?_cons_zero, List.getElem?_cons_succ, Option.some.injEq] at ho
              subst ho
              obtain ⟨i82, k82⟩ : act.eval (.tmp (82 : Nat)) = vs 11 ∧ ((vs 11) = frV en) := hin 11 82 rfl rfl
              obtain ⟨i83, k83⟩ : act.eval (.tmp (83 : Nat)) = vs 12 ∧ ((vs 12) = .pointer (some ⟨ge, i * 3, none⟩)) := hin 12 83 rfl rfl
              have ee0 : u.cell? ⟨ge, i * 3, none⟩ = some (.int .i64 ei.n) := (bl_cell hu _ _ hgel8).trans (CE8.out 0 _ rfl)
              have fe0 : u.frozen? ⟨ge, i * 3, none⟩ = false := (bl_froz hu _ _ hgel8).trans (FE8.out _)
              have ee1 : u.cell? ⟨ge, i * 3 + 1, none⟩ = some (.int .i64 ei.d) := (bl_cell hu _ _ hgel8).trans (CE8.out 1 _ rfl)
              have fe1 : u.frozen? ⟨ge, i * 3 + 1, none⟩ = false := (bl_froz hu _ _ hgel8).trans (FE8.out _)
              have ee2 : u.cell? ⟨ge, i * 3 + 2, none⟩ = some (.bool ei.bad) := (bl_cell hu _ _ hgel8).trans (CE8.out 2 _ rfl)
              have fe2 : u.frozen? ⟨ge, i * 3 + 2, none⟩ = false := (bl_froz hu _ _ hgel8).trans (FE8.out _)
              replace i83 := i83.trans k83
              replace i82 := i82.trans k82
              exact skip_wp (by intro c h; cases h) (fun _ _ => trivial) (by simp only [execOp, i83, i82]; simp [go_sem, ee0, fe0, ee1, fe1, ee2, fe2]; rfl) ⟨rfl, rfl⟩
            case fin =>
              intro vs vb u0 u hu hin hps
              have a0 := hin 0 71 rfl
              have a1 := hin 1 72 rfl
              have a2 := hin 2 73 rfl
              have a3 := hin 3 74 rfl
              have a4 := hin 4 75 rfl
              have a5 := hin 5 76 rfl
              have a6 := hin 6 77 rfl
              have a7 := hin 7 78 rfl
              have a8 := hin 8 79 rfl
              have a9 := hin 9 80 rfl
              have a10 := hin 10 81 rfl
              have a11 := hin 11 82 rfl
              have a12 := hin 12 83 rfl
              simp only [putL, Act.put, List.setIfInBounds_toArray, List.set_cons_zero, List.set_cons_succ, Nat.zero_add, Nat.reduceAdd, Nat.reduceBEq, Bool.or_false, Bool.or_true, Bool.false_or, Bool.true_or, Bool.false_eq_true, if_false, if_true, reduceIte, Nat.reduceEqDiff, beq_self_eq_true, Bool.or_self] at a0 a1 a2 a3 a4 a5 a6 a7 a8 a9 a10 a11 a12 ⊢
              rw [if_pos (by decide)] at hps
              simp only [a0, a1, a2, a3, a4, a5, a6, a7, a8, a9, a10, a11, a12]
              have hie : i < (linJ n (partE kdF j0 i x t)).length := by rw [linJ_len]; exact hlt
              have PUT9 := hideP ((HE8.out.later hu).putAt cellsF_len hie en)
              rw [linJ_set9F _ hlt, ← hps] at PUT9
              have HS9 := hideP (show RwZ 3 cellsF u lo (.slice (some ⟨g, 0, none⟩) N cap) (mk n n (partS kdF j0 (i + 1) x t)) from by rw [hps]; exact (HS8.out.later hu).but (S := fun b => b = ge) (but_setCells (S := fun b => b = ge) (b := ge) rfl _ _ _ _ (But.refl _ _)) (fun b hb => by cases hb; exact hne))
              have bt9 : But (fun b => b = g ∨ b = ge) w5 u := by rw [hps]; exact bt8.trans ((But.of_bl hu).trans ((but_setCells (S := fun b => b = ge) (b := ge) rfl _ _ _ _ (But.refl _ _)).mono fun _ h => .inr h))
              clear hps hu
              go_wp2
              go_roundw
              case rel => exact ⟨i + 1, by simp, by omega, by omega, HS9.out, by rw [show partE kdF j0 (i + 1) x t = fun r => if r = i then en else partE kdF j0 i x t r from by funext r; rw [partE_next kdF hji, HENQ.out]]; exact PUT9.out, bt9⟩
              case measure => simp [intOf]; omega
        · obtain rfl : i = n := by omega
          obtain ⟨m0', m1', m2', _, _, _, _⟩ := id mb
          have kb9 : FBox wr b11 bb := (kb.later b15').but bt (by have := hglt; have := hgelt; have := lt11; omega)
          have kz9 : FBox wr (w.heap.size + 1 + 1 + 1) zeroR := (kz.later b5).but bt (by have := hglt; have := hgelt; omega)
          obtain ⟨c0, c1, c2, f0, f1, f2, _⟩ := id kb9
          obtain ⟨d0, d1, d2, g0, g1, g2, _⟩ := id kz9
          go_wp2
          simp [bodyPost, results, Tryz.results115, go_sem, c0, c1, c2, f0, f1, f2, d0, d1, d2, g0, g1, g2]
          exact ⟨HR.out.but (butRF _ _ _ _ _) (fun b hb => by cases hb; show ¬ g = w.heap.size + 1 + 1 + 1; omega), HE.out.but (butRF _ _ _ _ _) (fun b hb => by cases hb; show ¬ ge = w.heap.size + 1 + 1 + 1; omega), ((But.of_bl (b0.trans b5)).trans bt).put (butRF _ _ _ _ _) (by omega)⟩
end Go.Proofs.YtljmggemdkfbiaaGreat

/- The loop of Rfv, where what a round is told may speak of all that came before. -/
namespace Go.Proofs.YtljmggemdkfbiaaGreat
open Go.RowKit
set_option linter.unusedSimpArgs false
set_option linter.unusedVariables false

/-- What the iterator's call leaves, the record and what else is no cells beside the invariant. -/
theorem rw_run {α : Type} {F : Fence} {n : Nat} {P : Program} {l B : Nat} {w W1 : World} (hB : B ≤ l) (hb : Bl w W1) (hlt1 : B ≤ W1.heap.size) {r : Loop} (hst : r.state = .ready) (hpe : r.pending = none) (hfn : F.fn r.fn)
    {gf : Nat} {lb : Array Value} {encs : α → Array Value} {V : α → World → World → Prop} {Kp : World → World → Prop} {S Sp : List α → Prop} {N : Nat} (hseq : SeqV F n P gf lb encs V Kp S Sp N w) (hV : ∀ x A B, V x A B → Bl A B)
    (hps : ∀ x, (encs x).size = r.params.size)
    (hKt : ∀ {A B C : World}, Kp A B → Kp B C → Kp A C) (hKb : ∀ (W : World) (l : Nat) (o o' : Obj), B ≤ l → W.heap[l]? = some o → o.isCells = false → o.isWalk = false → Kp W (W.putObj l o'))
    {I : List α → World → Prop} {Ix : Code → List α → World → Prop} (hI : OwnFrom B I) (hIx : ∀ c, OwnFrom B (Ix c)) {Ax : List α → α → Act → World → Prop} (hAx : ∀ pre x a', OwnFrom B (fun (_ : Unit) W => Ax pre x a' W))
    (hl : W1.heap[l]? = some (.loop r)) (h0 : I [] W1) (D : Nat) (od : Obj) (hD : B ≤ D) (hDl : D ≠ l) (hod : W1.heap[D]? = some od ∨ W1.heap.size ≤ D) (hoc : od.isCells = false) (how : od.isWalk = false)
    (hassign : ∀ (pre : List α) (x : α) (W0 W : World) (K : Act → World → Prop), I pre W0 → V x W0 W → I pre W → (∀ a' W', KeepsFrom B W W' → Kp W W' → I pre W' → Ax pre x a' W' → K a' W') →
      r.assign.wpIn (F.inRound l) (n - 1) P (Exit.then K (fun _ _ _ => False)) { tmps := (r.params.zip (encs x)).foldl (fun t (p, v) => t.setIfInBounds p v) r.tmps, defers := [] } W)
    (hbody : ∀ (pre : List α) (x : α) (a' : Act) (W : World), (∃ r', W.heap[l]? = some (.loop r')) → I pre W → Ax pre x a' W → pre.length < N → r.body.wpIn (F.inRound l) (n - 1) P (ownPostG B Kp I Ix (pre ++ [x]) W) a' W) :
    CallsIn F n P gf (#[.func (.yield l) #[] #[]] ++ lb) W1 fun e W' => (∃ v, e = .returned v) ∧ ((∃ xs, S xs ∧ I xs W' ∧ W'.heap[l]? = some (.loop r) ∧ (W1.heap[D]? = some od → W'.heap[D]? = some od)) ∨ ∃ pre c, Sp pre ∧ Ix c pre W' ∧ W'.heap[l]? = some (.loop (recOf r (some c))) ∧ (W1.heap[D]? = some od → W'.heap[D]? = some od)) := by
  have keep : ∀ {A C : World} {row : Option Nat}, A.grownBy C row → (∀ q, row = some q → W1.heap.size ≤ q ∧ ∃ o : Obj, A.heap[q]? = some o ∧ o.isWalk = true) → ∀ (k : Nat) (o : Obj), A.heap[k]? = some o → o.isWalk = false → C.heap[k]? = some o := by
    intro A C row hg hr k o hk ho
    refine (hg.block k (Array.getElem?_eq_some_iff.1 hk).1 (fun e => ?_)).trans hk
    obtain ⟨_, o', ho', hw⟩ := hr k e.symm
    rw [hk] at ho'
    cases ho'
    rw [ho] at hw
    cases hw
  have own : ∀ {A : World} {row : Option Nat}, (∀ q, row = some q → W1.heap.size ≤ q ∧ ∃ o : Obj, A.heap[q]? = some o ∧ o.isWalk = true) → ∀ q, row = some q → B ≤ q ∧ ∃ o : Obj, A.heap[q]? = some o ∧ o.isCells = false := by
    intro A row hr q e
    obtain ⟨h1, o, ho, hw⟩ := hr q e
    exact ⟨Nat.le_trans hlt1 h1, o, ho, Obj.not_cells_of_walk hw⟩
  refine (hseq l (fun pre W => I pre W ∧ W.heap[l]? = some (.loop r) ∧ (W1.heap[D]? = some od → W.heap[D]? = some od)) (fun pre W => ∃ c, Ix c pre W ∧ W.heap[l]? = some (.loop (recOf r (some c))) ∧ (W1.heap[D]? = some od → W.heap[D]? = some od)) W1 hb
    (fun s A C row hs hg hr => ⟨hI s A C row hs.1 hg (own hr), keep hg hr _ _ hs.2.1 rfl, fun h => keep hg hr _ _ (hs.2.2 h) how⟩)
    (fun s A C row hs hg hr => by obtain ⟨c, h1, h2, h3⟩ := hs; exact ⟨c, hIx c s A C row h1 hg (own hr), keep hg hr _ _ h2 rfl, fun h => keep hg hr _ _ (h3 h) how⟩) ?_ ⟨h0, hl, id⟩).mono ?_
  · rintro pre x W0 W ⟨i0, l0, d0⟩ hv hlen
    have hbv := hV x W0 W hv
    have hlW := (Below.block hbv l (Array.getElem?_eq_some_iff.1 l0).1).trans l0
    refine ((rv_round (Kp := Kp) (ys := pre ++ [x]) hB hst hfn (hps x) hKt hKb hI hIx (hAx pre x) hlW (fun K hK => hassign pre x W0 W K i0 hv (own_later hI hbv i0) hK) (fun a' W' hr hi ha => hbody pre x a' W' hr hi ha hlen)) : YieldAt F (n - 1) P l (encs x) W _).mono ?_
    rintro e W' ⟨j, rfl, hl', ho, hj⟩
    have hd' : W1.heap[D]? = some od → W'.heap[D]? = some od := fun h => ho D od hD hDl ((Below.block hbv D (Array.getElem?_eq_some_iff.1 (d0 h)).1).trans (d0 h)) hoc
    cases j with
    | none => exact .inl ⟨rfl, ⟨hj.1, by rw [recOf_none hst hpe] at hl'; exact hl', hd'⟩, hj.2⟩
    | some c => exact .inr ⟨rfl, c, hj, hl', hd'⟩
  · rintro e W' ⟨he, (⟨xs, h1, h2, h3, h4⟩ | ⟨pre, h1, c, h2, h3, h4⟩)⟩
    · exact ⟨he, .inl ⟨xs, h1, h2, h3, h4⟩⟩
    · exact ⟨he, .inr ⟨pre, c, h1, h2, h3, h4⟩⟩
/-- The loop, outside of a round. -/
theorem rangeW {α : Type} {F : Fence} {n : Nat} {P : Program} {g : Operand} {ps : Array Tmp} {assign body : Code} {Q : Exit → Act → World → Prop} {a : Act} {w : World}
    (hro : F.round = none) (h1 : 1 ≤ n) {gf : Nat} {lb : Array Value} (hg : a.eval g = .func (.func gf) #[] lb) (hFg : F.fn gf) (eg : ∀ args w, (callFunc gf args).run P w = .ok (.enter gf args) w)
    {encs : α → Array Value} {V : α → World → World → Prop} {Kp : World → World → Prop} {S Sp : List α → Prop} {N : Nat} (hseq : SeqV F (n - 1) P gf lb encs V Kp S Sp N w) (hV : ∀ x A B, V x A B → Bl A B)
    (hKt : ∀ {A B C : World}, Kp A B → Kp B C → Kp A C) (hKb : ∀ (W : World) (l : Nat) (o o' : Obj), w.heap.size ≤ l → W.heap[l]? = some o → o.isCells = false → o.isWalk = false → Kp W (W.putObj l o')) (hps : ∀ x, (encs x).size = ps.size)
    (I : List α → World → Prop) (Ix : Code → List α → World → Prop) (hI : OwnFrom w.heap.size I) (hIx : ∀ c, OwnFrom w.heap.size (Ix c)) (h0 : I [] w) (Ax : Act → List α → α → Act → World → Prop) (hAx : ∀ pre x a', OwnFrom w.heap.size (fun (_ : Unit) W => Ax a pre x a' W))
    (hassign : ∀ (l : Nat) (pre : List α) (x : α) (W0 W : World) (K : Act → World → Prop), I pre W0 → V x W0 W → I pre W → (∀ a' W', KeepsFrom w.heap.size W W' → Kp W W' → I pre W' → Ax a pre x a' W' → K a' W') →
      assign.wpIn (F.inRound l) (n - 1 - 1) P (Exit.then K (fun _ _ _ => False)) { tmps := (ps.zip (encs x)).foldl (fun t (p, v) => t.setIfInBounds p v) a.tmps, defers := [] } W)
    (hbody : ∀ (l : Nat) (pre : List α) (x : α) (a' : Act) (W : World), w.heap.size ≤ l → (∃ r, W.heap[l]? = some (.loop r)) → I pre W → Ax a pre x a' W → pre.length < N → body.wpIn (F.inRound l) (n - 1 - 1) P (ownPostG w.heap.size Kp I Ix (pre ++ [x]) W) a' W)
    (hdone : ∀ (D : Nat) (xs : List α) (W : World), w.heap.size ≤ D → S xs → I xs W → W.heap[D]? = some (.deferred (some [])) → Q .normal { a with defers := { target := .collected D, args := #[] } :: a.defers } W)
    (hstop : ∀ (D : Nat) (c : Code) (pre : List α) (W : World), w.heap.size ≤ D → Sp pre → Ix c pre W → W.heap[D]? = some (.deferred (some [])) → c.wpIn F n P Q { a with defers := { target := .collected D, args := #[] } :: a.defers } W) :
    (Code.rangeFunc g ps assign body).wpIn F n P Q a w := by
  refine wpIn_rangeFunc fun fn hfn => ?_
  rw [hro]
  have he := run_enterLoop_outer (P := P) (w := w) fn a.tmps ps assign body
  generalize hr : ({ state := .ready, pending := none, fn, tmps := a.tmps, params := ps, assign, body, defers := w.heap.size } : Loop) = r at he
  obtain ⟨e1, e2, e3, e4, e5, e6, e7⟩ : r.state = .ready ∧ r.pending = none ∧ r.fn = fn ∧ r.tmps = a.tmps ∧ r.params = ps ∧ r.assign = assign ∧ r.body = body := by rw [← hr]; exact ⟨rfl, rfl, rfl, rfl, rfl, rfl, rfl⟩
  clear hr
  generalize hW : (w.alloc (.deferred (some []))).alloc (.loop r) = W1 at he
  have hb : Bl w W1 := by rw [← hW]; exact ((Bl.refl w).alloc _).alloc _
  have hl : W1.heap[w.heap.size + 1]? = some (.loop r) := by
    rw [← hW]; have := World.alloc_heap_new (w.alloc (.deferred (some []))) (.loop r); rwa [World.size_alloc] at this
  have hd : W1.heap[w.heap.size]? = some (.deferred (some [])) := by rw [← hW]; exact (Below.heap_alloc _ _ _ (by simp)).trans (World.alloc_heap_new w _)
  refine ⟨_, _, _, { target := .fn (.func gf) lb, args := #[.func (.yield (w.heap.size + 1)) #[] #[]] }, W1, gf, #[.func (.yield (w.heap.size + 1)) #[] #[]] ++ lb, W1, he, ?_, ?_, ?_, fun _ => h1, ?_⟩
  · simp only [resolve, hg]
    simp [go_sem]
  · intro f' hf'
    simp [Target.leads] at hf'
    subst hf'
    exact hFg
  · simp [invoke, go_sem, eg]
  · refine (rw_run (Kp := Kp) (Ax := Ax a) (Nat.le_succ _) hb hb.size e1 e2 (e3 ▸ hfn) hseq hV (by rw [e5]; exact hps) hKt hKb hI hIx hAx hl (own_later hI hb h0) w.heap.size (.deferred (some [])) (Nat.le_refl _) (by omega) (.inl hd) rfl rfl
      (by rw [e4, e5, e6]; exact fun pre x W0 W K => hassign _ pre x W0 W K) (by rw [e7]; exact fun pre x a' W h => hbody _ pre x a' W (Nat.le_succ _) h)).mono ?_
    rintro e W' ⟨⟨v, rfl⟩, (⟨xs, h1, h2, h3, h4⟩ | ⟨pre, c, h1, h2, h3, h4⟩)⟩
    · have hq := run_endLoop (P := P) h3 (by rw [e1]; decide)
      rw [e2] at hq
      exact ⟨none, _, hq, hdone _ xs _ (Nat.le_refl _) h1 (hI.putObj _ h2 (Nat.le_succ _) h3 rfl) ((World.putObj_heap_other (by omega)).trans (h4 hd))⟩
    · have hq := run_endLoop (P := P) h3 (by simp [recOf])
      exact ⟨some c, _, hq, hstop _ c pre _ (Nat.le_refl _) h1 ((hIx c).putObj _ h2 (Nat.le_succ _) h3 rfl) ((World.putObj_heap_other (by omega)).trans (h4 hd))⟩
theorem RwZ.own {α : Type} {s : Nat} {c : α → List Value} (hs : ∀ x, (c x).length = s) (s0 : 0 < s) {X Y : World} {lo : Nat} {v : Value} {xs : List α} {row : Option Nat} (h : RwZ s c X lo v xs) (hne : xs ≠ []) (hg : X.grownBy Y row) (hr : ∀ r, row = some r → ∃ o : Obj, X.heap[r]? = some o ∧ o.isCells = false) : RwZ s c Y lo v xs := by
  obtain ⟨b, cap, rfl, hc, hlo, hb, hf, hx⟩ := h
  obtain ⟨x0, xs', rfl⟩ := List.exists_cons_of_ne_nil hne
  have hcell := hx 0 x0 rfl 0 _ (List.getElem?_eq_getElem (by rw [hs]; exact s0))
  have hbr : row ≠ some b := by
    intro e
    obtain ⟨o, ho, hoc⟩ := hr b e
    unfold World.cell? at hcell
    simp only [ho] at hcell
    cases o <;> simp_all [Obj.isCells]
  have hblk := hg.block b hb (fun e => hbr e.symm)
  exact ⟨b, cap, rfl, hc, hlo, Nat.lt_of_lt_of_le hb hg.size, fun o => (World.frozen?_of_block (a := ⟨b, o, none⟩) hblk).trans (hf o), fun j x hj k u hu => (World.cell?_of_block (a := ⟨b, j * s + k, none⟩) hblk).trans (hx j x hj k u hu)⟩
/-- A row's block that an append to another row, and a store into a variable, leave as it was. -/
theorem RwZ.beside {α : Type} {s : Nat} {c : α → List Value} {u w5 : World} {lo B : Nat} {v v' : Value} {xs : List α} {row : Option Nat} (h : RwZ s c u lo v xs) (hg : u.grownBy w5 row) (hne : ∀ g, v.ownBlock = some g → row ≠ some g ∧ g ≠ B) : RwZ s c (w5.setCell ⟨B, 0, none⟩ v') lo v xs := by
  obtain ⟨b, cap, rfl, hc, hlo, hb, hf, hx⟩ := h
  have h1 := hne b rfl
  have hk : (w5.setCell ⟨B, 0, none⟩ v').heap[b]? = u.heap[b]? := (Below.heap_setCell _ _ _ b (by show b ≠ B; exact h1.2)).trans (hg.block b hb (fun e => h1.1 e.symm))
  exact ⟨b, cap, rfl, hc, hlo, by simp; exact Nat.lt_of_lt_of_le hb hg.size, fun o => (World.frozen?_of_block (a := ⟨b, o, none⟩) hk).trans (hf o), fun j x hj k u hu => (World.cell?_of_block (a := ⟨b, j * s + k, none⟩) hk).trans (hx j x hj k u hu)⟩
/-- A row's value, as the cell of a table. -/
abbrev hdC (C : Nat) (x : RowX) : List Value := [rowV C x]
theorem hd_get (C : Nat) : ∀ (pre : List RowX) (i : Nat) (x : RowX), pre[i]? = some x → (pre.flatMap (hdC C))[i]? = some (rowV C x)
  | [], i, x, h => by simp at h
  | y :: pre, 0, x, h => by simp at h; subst h; rfl
  | y :: pre, i + 1, x, h => by
    rw [List.flatMap_cons]
    show ([rowV C y] ++ pre.flatMap (hdC C))[i + 1]? = _
    rw [List.getElem?_append_right (by simp)]
    exact hd_get C pre i x (by simpa using h)
/-- The rows that have come: each in a block of its own. -/
def RowsZ {α : Type} (s : Nat) (c : α → List Value) (lo R C : Nat) (f : Nat → Nat → α) (pre : List RowX) (U : World) : Prop :=
  (∀ y ∈ pre, RwZ s c U lo (rowV C y) (rowM C f y.1) ∧ y.1 < R) ∧ pre.Pairwise fun x y => (rowV C x).ownBlock ≠ (rowV C y).ownBlock
/-- The table of all rows. -/
theorem Tbl.of {α : Type} {s : Nat} {c : α → List Value} {U : World} {base lo R C : Nat} {t : TypeId} {f : Nat → Nat → α} {zs : List RowX} {v : Value} (hS : zs.map (·.1) = List.range R) (hR : 0 < R)
    (hrow : U.ownsRow base t 1 v zs.length (zs.flatMap (hdC C))) (hZ : RowsZ s c lo R C f zs U) (hG : ∀ y ∈ zs, v.ownBlock ≠ (rowV C y).ownBlock) :
    ∃ H hc B cp, v = .slice (some ⟨H, 0, none⟩) R hc ∧ R ≤ hc ∧ base ≤ H ∧ Tbl s c U H B cp R C f ∧ ∀ i, i < R → lo ≤ B i := by
  have hlen : zs.length = R := by have := congrArg List.length hS; simpa using this
  have at_ : ∀ i, i < R → ∃ x, zs[i]? = some x ∧ x.1 = i ∧ ∃ b, x.2.1 = some ⟨b, 0, none⟩ ∧ C ≤ x.2.2 ∧ lo ≤ b ∧ b < U.heap.size ∧ (∀ o, U.frozen? ⟨b, o, none⟩ = false) ∧ ∀ j z, (rowM C f i)[j]? = some z → ∀ k u, (c z)[k]? = some u → U.cell? ⟨b, j * s + k, none⟩ = some u := fun i hi => by
    have hx : zs[i]? = some (zs[i]'(by omega)) := List.getElem?_eq_getElem (by omega)
    have h1 : (zs[i]'(by omega)).1 = i := by
      have := congrArg (·[i]?) hS
      simp only [List.getElem?_map, hx, List.getElem?_range hi, Option.map_some, Option.some.injEq] at this
      exact this
    obtain ⟨b, cap, e, hc, hlo, hb, hf, hcell⟩ := (hZ.1 _ (List.mem_of_getElem? hx)).1
    rw [h1] at hcell
    simp only [rowV, Value.slice.injEq] at e
    rw [rowM_len] at hc
    exact ⟨_, hx, h1, b, e.1, by rw [e.2.2]; exact hc, hlo, hb, hf, hcell⟩
  have ex : ∀ i, ∃ b, i < R → ∃ x, zs[i]? = some x ∧ x.1 = i ∧ x.2.1 = some ⟨b, 0, none⟩ ∧ C ≤ x.2.2 ∧ lo ≤ b ∧ b < U.heap.size ∧ (∀ o, U.frozen? ⟨b, o, none⟩ = false) ∧ ∀ j z, (rowM C f i)[j]? = some z → ∀ k u, (c z)[k]? = some u → U.cell? ⟨b, j * s + k, none⟩ = some u := fun i => by
    by_cases hi : i < R
    · obtain ⟨x, h1, h2, b, h3⟩ := at_ i hi
      exact ⟨b, fun _ => ⟨x, h1, h2, h3⟩⟩
    · exact ⟨0, fun h => absurd h hi⟩
  obtain ⟨B, hB⟩ := Classical.axiomOfChoice ex
  have hB : ∀ i, i < R → ∃ x, zs[i]? = some x ∧ x.1 = i ∧ x.2.1 = some ⟨B i, 0, none⟩ ∧ C ≤ x.2.2 ∧ lo ≤ B i ∧ B i < U.heap.size ∧ (∀ o, U.frozen? ⟨B i, o, none⟩ = false) ∧ ∀ j z, (rowM C f i)[j]? = some z → ∀ k u, (c z)[k]? = some u → U.cell? ⟨B i, j * s + k, none⟩ = some u := hB
  have hlt := hrow.lt
  have hcs : ∀ g, v.ownBlock = some g → ∀ j u, (zs.flatMap (hdC C))[j]? = some u → U.cell? ((⟨g, 0, none⟩ : Addr).add j) = some u := fun g hg => hrow.cells hg
  rcases hrow.2 with ⟨_, e0⟩ | ⟨H, hc, cur, rfl, hbs, _, hcap, _⟩
  · omega
  · refine ⟨H, hc, B, fun i => ((zs[i]?.map fun x : RowX => x.2.2).getD 0), by rw [hlen], by omega, hbs, ⟨fun i hi => ?_, (hlt H rfl).2, fun i hi => ?_, fun i j hi hj e => ?_, fun i hi e => ?_, fun i hi => ?_, fun i j hi hj k u hu => ?_, fun i hi => ?_⟩, fun i hi => ?_⟩
    · obtain ⟨x, hx, h1, h2, _⟩ := hB i hi
      have := hcs H rfl i _ (hd_get C zs i x hx)
      have hadd : (⟨H, 0, none⟩ : Addr).add i = ⟨H, i, none⟩ := by unfold Addr.add; split <;> simp_all
      rw [hadd] at this
      rw [this, hx]
      simp only [rowV, Option.map_some, Option.getD_some, h2]
    · obtain ⟨x, _, _, _, _, _, h, _⟩ := hB i hi
      exact h
    · obtain ⟨x, hx, h1, h2, _⟩ := hB i hi
      obtain ⟨y, hy, k1, k2, _⟩ := hB j hj
      have P := List.pairwise_iff_getElem.1 hZ.2
      have ex : zs[i]'(by omega) = x := by rw [List.getElem?_eq_getElem (by omega)] at hx; exact Option.some.inj hx
      have ey : zs[j]'(by omega) = y := by rw [List.getElem?_eq_getElem (by omega)] at hy; exact Option.some.inj hy
      have same : (rowV C x).ownBlock = (rowV C y).ownBlock := by unfold rowV; rw [h2, k2, e]; rfl
      rcases Nat.lt_trichotomy i j with h | h | h
      · have := P i j (by omega) (by omega) h
        rw [ex, ey] at this
        exact absurd same this
      · exact h
      · have := P j i (by omega) (by omega) h
        rw [ex, ey] at this
        exact absurd same.symm this
    · obtain ⟨x, hx, h1, h2, _⟩ := hB i hi
      refine hG x (List.mem_of_getElem? hx) ?_
      unfold rowV
      rw [h2, e]
      rfl
    · obtain ⟨x, hx, _, _, h, _⟩ := hB i hi
      rw [hx]
      exact h
    · obtain ⟨x, _, _, _, _, _, _, _, h⟩ := hB i hi
      exact h j (f i j) (rowM_get f i hj) k u hu
    · obtain ⟨x, _, _, _, _, _, _, h, _⟩ := hB i hi
      exact h
    · obtain ⟨x, _, _, _, _, h, _⟩ := hB i hi
      exact h
end Go.Proofs.YtljmggemdkfbiaaGreat

/- Contract of slices.Backward over a row, of fractions: an iterator from the last number to the first one (layer 10). Written by genRo.py. -/
namespace Go.Proofs.YtljmggemdkfbiaaGreat
open Go.RowKit Go.Shelf
set_option linter.unusedSimpArgs false
set_option linter.unusedVariables false
attribute [local go_sem] Oper.semAt_some
/-- A row's slice, in a block of its own. -/
structure KeptBF (w : World) (B : Nat) (p : Option Addr) (n cap : Nat) (f : Nat → Fr) : Prop where
  box : w.cell? ⟨B, 0, none⟩ = some (.slice p n cap)
  row : Rw 3 cellsF w (.slice p n cap) (linJ n f)
/-- The last t numbers, from the last one on. -/
def zsBF (n : Nat) (f : Nat → Fr) (t : Nat) : List (Nat × Fr) := (List.range t).map fun s => (n - 1 - s, f (n - 1 - s))
theorem zsB_nextF (n : Nat) (f : Nat → Fr) (t : Nat) : zsBF n f (t + 1) = zsBF n f t ++ [(n - 1 - t, f (n - 1 - t))] := by
  unfold zsBF
  rw [List.range_succ, List.map_append]
  rfl
theorem rq_atF {w : World} {p : Option Addr} {n cap : Nat} {f : Nat → Fr} (h : Rq 3 cellsF w (.slice p n cap) (linJ n f)) {i : Nat} (hi : i < n) : ∃ b o, p = some ⟨b, o, none⟩ ∧ ∀ j v, (cellsF (f i))[j]? = some v → w.cell? ⟨b, o + i * 3 + j, none⟩ = some v := by
  rcases h with ⟨p', cap', e, hx, _⟩ | ⟨b, o, cap', e, hc, hb, hx⟩
  · have := congrArg List.length hx
    rw [linJ_len] at this
    simp at this
    omega
  · simp only [Value.slice.injEq] at e
    exact ⟨b, o, e.1, fun j v hj => hx i _ (linJ_get _ hi) j v hj⟩
set_option maxRecDepth 100000 in
set_option maxHeartbeats 2000000 in
theorem iterBF (m l B n : Nat) (p : Option Addr) (cap : Nat) (f : Nat → Fr) (Kp : World → World → Prop) (hKp : ∀ {A C : World}, KeptBF A B p n cap f → Kp A C → KeptBF C B p n cap f) (J Jx : List (Nat × Fr) → World → Prop) (W : World) (hn : n ≤ 1000)
    (hY : ∀ pre x W0 W1, J pre W0 → (W1 = W0 ∧ pre = zsBF n f pre.length ∧ x = (n - 1 - pre.length, f (n - 1 - pre.length))) → pre.length < n → YieldAt Fence.wide (m - 1) Tryz.prog l #[.int .i64 x.1, frV x.2] W1 fun e W' =>
      (e = .returned (.bool true) ∧ J (pre ++ [x]) W' ∧ Kp W1 W') ∨ (e = .returned (.bool false) ∧ Jx (pre ++ [x]) W'))
    (hP : KeptBF W B p n cap f) (h0 : J [] W) :
    CallsIn Fence.wide m Tryz.prog 142 #[.func (.yield l) #[] #[], .pointer (some ⟨B, 0, none⟩)] W fun e W' => (∃ v, e = .returned v) ∧
      ((∃ zs : List (Nat × Fr), zs = zsBF n f n ∧ J zs W') ∨ (∃ pre : List (Nat × Fr), pre.length ≤ n ∧ Jx pre W')) := by
  have HP := hideP hP
  have c0 := hP.box
  clear hP
  refine callsIn_of_wp Tryz.func142 rfl trivial ?_ rfl
  simp only [Tryz.ntmps142, List.size_toArray, List.length_cons, List.length_nil, Nat.reduceAdd, Nat.reduceSub, Array.replicate_succ, Array.replicate_zero, List.push_toArray, List.append_toArray, List.nil_append, List.cons_append]
  have WN : IntKind.i64.wrap ((n : Int) - 1) = (n : Int) - 1 := wrapS7 (by omega) (by omega)
  gi_wp2
  clear c0
  gi_loopw [3] (fun i wr => ∃ t : Nat, t ≤ n ∧ i = .int .i64 ((n : Int) - 1 - t) ∧ J (zsBF n f t) wr ∧ KeptBF wr B p n cap f) (fun i _ => (intOf i + 1).toNat)
  case atStart => exact ⟨0, Nat.zero_le _, by simp, h0, HP.out⟩
  case round =>
    obtain ⟨t, ht, rfl, hJs, hk⟩ := hrel
    have HK := hideP hk
    clear hk
    by_cases hlt : t < n
    · obtain ⟨i, hi⟩ : ∃ i : Nat, i = n - 1 - t := ⟨_, rfl⟩
      have e1 : (n : Int) - 1 - t = (i : Int) := by omega
      have e2 : IntKind.i64.wrap ((i : Int) - 1) = (i : Int) - 1 := wrapS7 (by omega) (by omega)
      have hin : i < n := by omega
      have hge : (i : Int) ≥ 0 := by omega
      rw [e1]
      obtain ⟨b, o, rfl, CX⟩ := rq_atF HK.out.row.q hin
      obtain ⟨y, hy⟩ : ∃ y, y = f i := ⟨_, rfl⟩
      rw [← hy] at CX
      have x0 : wr.cell? ⟨b, o + i * 3, none⟩ = some (.int .i64 y.n) := by simpa using CX 0 _ rfl
      have x1 : wr.cell? ⟨b, o + i * 3 + 1, none⟩ = some (.int .i64 y.d) := by simpa using CX 1 _ rfl
      have x2 : wr.cell? ⟨b, o + i * 3 + 2, none⟩ = some (.bool y.bad) := by simpa using CX 2 _ rfl
      have c0 := HK.out.box
      have hlen : (zsBF n f t).length = t := by simp [zsBF]
      obtain ⟨fn, tmps, assign, body, hyd, hR2⟩ := hY (zsBF n f t) (i, y) wr wr hJs ⟨rfl, by rw [hlen], by rw [hlen, ← hi, hy]⟩ (by omega)
      dsimp only at hyd
      have hR3 : RoundIn Fence.wide (m - 1) Tryz.prog l fn tmps assign body wr fun e W' => ∃ r : Bool, e = .returned (.bool r) ∧ ((r = true ∧ J (zsBF n f (t + 1)) W' ∧ Kp wr W') ∨ (r = false ∧ Jx (zsBF n f (t + 1)) W')) := by
        refine hR2.mono ?_
        rw [zsB_nextF, ← hi, ← hy]
        rintro e W' (⟨rfl, h1, h2⟩ | ⟨rfl, h1⟩)
        · exact ⟨true, rfl, .inl ⟨rfl, h1, h2⟩⟩
        · exact ⟨false, rfl, .inr ⟨rfl, h1⟩⟩
      have HI := hideP hi
      clear CX hR2 hy e1 hi
      gi_wp2_with fail
      refine ⟨fun h => (by cases h), ?_⟩
      refine hR3.mono ?_
      rintro e W3 ⟨r, rfl, hr⟩
      clear c0 x0 x1 x2 hR3 hyd
      rcases hr with ⟨rfl, hJ3, hk3⟩ | ⟨rfl, hJx3⟩
      · have HK3 := hideP (hKp HK.out hk3)
        gi_wp2
        go_roundw
        case rel => exact ⟨t + 1, by omega, by first | rfl | (congr 1; have := HI.out; omega), hJ3, HK3.out⟩
        case measure => simp [intOf] <;> omega
      · gi_wp2
        refine bodyPost_ret (results_none rfl _ _ _) rfl ?_
        exact ⟨⟨_, rfl⟩, .inr ⟨_, by simp [zsBF] <;> omega, hJx3⟩⟩
    · obtain rfl : t = n := by omega
      have e1 : (t : Int) - 1 - t = -1 := by omega
      rw [e1]
      have HJ := hideP hJs
      clear hJs
      gi_wp2
      go_end0
      exact ⟨⟨_, rfl⟩, .inl ⟨_, rfl, HJ.out⟩⟩
theorem seqBF (m B n : Nat) (p : Option Addr) (cap : Nat) (f : Nat → Fr) (Kp : World → World → Prop) (hKp : ∀ {A C : World}, KeptBF A B p n cap f → Kp A C → KeptBF C B p n cap f) (w : World) (hn : n ≤ 1000) (hP : ∀ W, Bl w W → KeptBF W B p n cap f) :
    SeqV Fence.wide m Tryz.prog 142 #[.pointer (some ⟨B, 0, none⟩)] (fun x : Nat × Fr => #[.int .i64 x.1, frV x.2]) (fun x W0 W1 => W1 = W0 ∧ x.1 < n) Kp (fun zs => zs = zsBF n f n) (fun pre => pre.length ≤ n) n w :=
  fun l J Jx W hW hJ _ hY h0 => iterBF m l B n p cap f Kp hKp J Jx W hn (fun pre x W0 W1 h1 h2 h3 => hY pre x W0 W1 h1 ⟨h2.1, by rw [h2.2.2]; show n - 1 - pre.length < n; omega⟩ h3) (hP W hW) h0
theorem backwardF (n : Nat) (p : Option Addr) (cap : Nat) (f : Nat → Fr) (w : World) (h : Rw 3 cellsF w (.slice p n cap) (linJ n f)) :
    Calls Tryz.prog 114 #[.slice p n cap] w fun e w' => e = .returned (.func (.func 142) #[] #[.pointer (some ⟨w.heap.size, 0, none⟩)]) ∧ KeptBF w' w.heap.size p n cap f ∧ w' = w.alloc (.cells #[.slice p n cap] 28) := by
  go_enter Tryz.func114, Tryz.ntmps114
  go_wp2
  go_ret
  exact ⟨rfl, ⟨by simp [go_sem], h.later ((Bl.refl _).alloc _)⟩, rfl⟩
end Go.Proofs.YtljmggemdkfbiaaGreat

/- Contracts of root's shares and taken, of fractions (layer 10). Written by genRo.py. -/
namespace Go.Proofs.YtljmggemdkfbiaaGreat
open Go.RowKit Go.Shelf
set_option linter.unusedSimpArgs false
set_option linter.unusedVariables false
attribute [local go_sem] Oper.semAt_some

/-- Blocks are laid; or block ge has turned, and holds xs. -/
def RelOF (ge lo n : Nat) (xs : List Fr) (x y : World) : Prop := Bl x y ∨ (But (fun b => b = ge) x y ∧ RwZ 3 cellsF y lo (.slice (some ⟨ge, 0, none⟩) n n) xs)
theorem RelOF.but {ge lo n : Nat} {xs : List Fr} {x y : World} (h : RelOF ge lo n xs x y) : But (fun b => b = ge) x y := by
  rcases h with h | h
  · exact But.of_bl h
  · exact h.1
theorem RelOF.trans {ge lo n : Nat} {xs : List Fr} {x y z : World} (h : RelOF ge lo n xs x y) (k : RelOF ge lo n xs y z) : RelOF ge lo n xs x z := by
  rcases k with k | k
  · rcases h with h | h
    · exact .inl (h.trans k)
    · exact .inr ⟨h.1.trans (But.of_bl k), h.2.later k⟩
  · exact .inr ⟨h.but.trans k.1, k.2⟩
theorem RelOF.rwz {ge lo n : Nat} {xs : List Fr} {x y : World} (h : RelOF ge lo n xs x y) (k : RwZ 3 cellsF x lo (.slice (some ⟨ge, 0, none⟩) n n) xs) : RwZ 3 cellsF y lo (.slice (some ⟨ge, 0, none⟩) n n) xs := by
  rcases h with h | h
  · exact k.later h
  · exact h.2
theorem rq_butF {α : Type} {s : Nat} {c : α → List Value} {w w' : World} {v : Value} {xs : List α} {S : Nat → Prop} (h : Rq s c w v xs) (k : But S w w') (hs : ∀ g, v.ownBlock = some g → ¬ S g) : Rq s c w' v xs := by
  rcases h with h | ⟨b, o, cap, rfl, hc, hb, hx⟩
  · exact .inl h
  · exact .inr ⟨b, o, cap, rfl, hc, Nat.lt_of_lt_of_le hb k.size, fun j x hj i u hu => (k.cell _ _ hb (hs b rfl)).trans (hx j x hj i u hu)⟩
/-- The same numbers, copied into it once more. -/
theorem RwZ.againF {w : World} {lo g n cap : Nat} {xs : List Fr} (h : RwZ 3 cellsF w lo (.slice (some ⟨g, 0, none⟩) n cap) xs) :
    (∀ j, j < (xs.flatMap cellsF).length → (w.cell? ⟨g, 0 + j, none⟩).isSome = true) ∧ (∀ j, j < (xs.flatMap cellsF).length → w.frozen? ⟨g, 0 + j, none⟩ = false) := by
  obtain ⟨b, cap', e, hc, hlo, hb, hf, hx⟩ := h
  simp only [Value.slice.injEq, Option.some.injEq, Addr.mk.injEq] at e
  obtain ⟨⟨rfl, _⟩, _, _⟩ := e
  refine ⟨fun j hj => ?_, fun j _ => hf _⟩
  rw [flat_len cellsF_len] at hj
  have h1 : j / 3 < xs.length := (Nat.div_lt_iff_lt_mul (by decide)).2 hj
  have h2 := hx (j / 3) _ (List.getElem?_eq_getElem h1) (j % 3) _ (List.getElem?_eq_getElem (by rw [cellsF_len]; exact Nat.mod_lt _ (by decide)))
  rw [show 0 + j = j / 3 * 3 + j % 3 from by rw [Nat.zero_add, Nat.mul_comm]; exact (Nat.div_add_mod j 3).symm, h2]
  rfl
theorem RwZ.copy2F {w : World} {lo g n cap : Nat} {xs : List Fr} (h : RwZ 3 cellsF w lo (.slice (some ⟨g, 0, none⟩) n cap) xs) : RwZ 3 cellsF (w.setCells g 0 (xs.flatMap cellsF)) lo (.slice (some ⟨g, 0, none⟩) n cap) xs := by
  have H := RwZ.againF h
  obtain ⟨b, cap', e, hc, hlo, hb, hf, hx⟩ := h
  simp only [Value.slice.injEq, Option.some.injEq, Addr.mk.injEq] at e
  obtain ⟨⟨rfl, _⟩, rfl, rfl⟩ := e
  refine ⟨g, cap, rfl, hc, hlo, by rw [setCells_size]; exact hb, fun o => ?_, fun j x hj k u hu => ?_⟩
  · rw [World.frozen?_setCells]
    exact hf o
  · have hk : k < 3 := by have := (List.getElem?_eq_some_iff.1 hu).1; rwa [cellsF_len] at this
    have hjl := (List.getElem?_eq_some_iff.1 hj).1
    refine cell_set_some (o := 0) (fun j hj => by have := H.1 j hj; exact this) (Nat.zero_le _) (by rw [Nat.zero_add, flat_len cellsF_len]; have : (j + 1) * 3 ≤ xs.length * 3 := Nat.mul_le_mul_right _ hjl; omega) ?_
    rw [Nat.sub_zero, flat_get cellsF_len xs j k x hj hk]
    exact hu
theorem but_putObj9F {S : Nat → Prop} (W : World) {l : Nat} {o' : Obj} (h : S l) : But S W (W.putObj l o') := ⟨rfl, rfl, rfl, by simp [World.putObj], fun i _ hs => World.putObj_heap_other (by rintro rfl; exact hs h)⟩
theorem cell_lt9F {w : World} {b o : Nat} {v : Value} (h : w.cell? ⟨b, o, none⟩ = some v) : b < w.heap.size := by
  rcases Nat.lt_or_ge b w.heap.size with h1 | h1
  · exact h1
  · unfold World.cell? at h
    rw [show w.heap[b]? = none from Array.getElem?_eq_none h1] at h
    cases h
theorem box_blk9F {w w' : World} {b : Nat} {x : Fr} (h : FBox w b x) (e : w'.heap[b]? = w.heap[b]?) (hs : w.heap.size ≤ w'.heap.size) : FBox w' b x :=
  ⟨(World.cell?_of_block (a := ⟨b, 0, none⟩) e).trans h.c0, (World.cell?_of_block (a := ⟨b, 1, none⟩) e).trans h.c1, (World.cell?_of_block (a := ⟨b, 2, none⟩) e).trans h.c2, (World.frozen?_of_block (a := ⟨b, 0, none⟩) e).trans h.f0, (World.frozen?_of_block (a := ⟨b, 1, none⟩) e).trans h.f1, (World.frozen?_of_block (a := ⟨b, 2, none⟩) e).trans h.f2, Nat.lt_of_lt_of_le h.lt hs⟩
theorem keptB_butF {A C : World} {B : Nat} {p : Option Addr} {n cap : Nat} {f : Nat → Fr} {S : Nat → Prop} (h : KeptBF A B p n cap f) (k : But S A C) (hB : ¬ S B) (hp : ∀ b, (Value.slice p n cap).ownBlock = some b → ¬ S b) : KeptBF C B p n cap f :=
  ⟨(k.cell _ _ (cell_lt9F h.box) hB).trans h.box, h.row.but k hp⟩
theorem own_ne9F {X : World} {row : Option Nat} {b o : Nat} {v : Value} (hc : X.cell? ⟨b, o, none⟩ = some v) (hr : ∀ r, row = some r → ∃ o : Obj, X.heap[r]? = some o ∧ o.isCells = false) : row ≠ some b := by
  intro e
  obtain ⟨ob, ho, hoc⟩ := hr b e
  unfold World.cell? at hc
  simp only [ho] at hc
  cases ob <;> simp_all [Obj.isCells]
theorem own_blk9F {X Y : World} {row : Option Nat} {b o : Nat} {v : Value} (hc : X.cell? ⟨b, o, none⟩ = some v) (hg : X.grownBy Y row) (hr : ∀ r, row = some r → ∃ o : Obj, X.heap[r]? = some o ∧ o.isCells = false) : Y.heap[b]? = X.heap[b]? :=
  hg.block b (cell_lt9F hc) (fun e => own_ne9F hc hr e.symm)
/-- Between two rounds. -/
structure StIF (w : World) (n N g c1 ge H : Nat) (t : StO Fr) (U : World) : Prop where
  s : RwZ 3 cellsF U w.heap.size (.slice (some ⟨g, 0, none⟩) N c1) (mk n n t.s)
  e : RwZ 3 cellsF U w.heap.size (.slice (some ⟨ge, 0, none⟩) n n) (linJ n t.e)
  a : FBox U (w.heap.size + 1 + 1 + 1 + 1) t.a
  m : MBox U (w.heap.size + 1 + 1) n n (some ⟨g, 0, none⟩) N c1
  l : U.cell? ⟨w.heap.size + 1 + 1 + 1, 0, none⟩ = some (.slice (some ⟨ge, 0, none⟩) n n)
  lf : U.frozen? ⟨w.heap.size + 1 + 1 + 1, 0, none⟩ = false
  bl : Bl w U
  sz : H ≤ U.heap.size
theorem sti_ownF {w : World} {n N g c1 ge H : Nat} {t : StO Fr} {X Y : World} {row : Option Nat} (h : StIF w n N g c1 ge H t X) (n1 : 1 ≤ n) (hN : N = n * n) (hw : w.heap.size ≤ H) (hg : X.grownBy Y row) (hr : ∀ r, row = some r → H ≤ r ∧ ∃ o : Obj, X.heap[r]? = some o ∧ o.isCells = false) : StIF w n N g c1 ge H t Y := by
  have hr2 : ∀ r, row = some r → ∃ o : Obj, X.heap[r]? = some o ∧ o.isCells = false := fun r e => (hr r e).2
  have ne1 : mk n n t.s ≠ [] := fun e => by have := congrArg List.length e; rw [mk_len] at this; have h2 : 0 < n * n := Nat.mul_pos n1 n1; simp at this; omega
  have ne2 : linJ n t.e ≠ [] := fun e => by have := congrArg List.length e; rw [linJ_len] at this; simp at this; omega
  have e8 := own_blk9F h.a.c0 hg hr2
  have e6 := own_blk9F h.m.c0 hg hr2
  have e7 := own_blk9F h.l hg hr2
  exact ⟨h.s.own cellsF_len (by decide) ne1 hg hr2, h.e.own cellsF_len (by decide) ne2 hg hr2, box_blk9F h.a e8 hg.size, mbox_block h.m e6 hg.size, (World.cell?_of_block (a := ⟨_, 0, none⟩) e7).trans h.l, (World.frozen?_of_block (a := ⟨_, 0, none⟩) e7).trans h.lf, Below.grown h.bl hg h.bl.size (fun k e => Nat.le_trans hw (hr k e).1), Nat.le_trans h.sz hg.size⟩
theorem sti_laterF {w : World} {n N g c1 ge H : Nat} {t : StO Fr} {X Y : World} (h : StIF w n N g c1 ge H t X) (k : Bl X Y) : StIF w n N g c1 ge H t Y :=
  ⟨h.s.later k, h.e.later k, h.a.later k, h.m.later k, (bl_cell k _ _ (cell_lt9F h.l)).trans h.l, (bl_froz k _ _ (cell_lt9F h.l)).trans h.lf, h.bl.trans k, Nat.le_trans h.sz k.size⟩
/-- What taken tells, in the cells of its results. -/
structure GdOF (w : World) (n N g c1 ge : Nat) (a : Fr) (U : World) : Prop where
  m : MBox U (w.heap.size + 1 + 1) n n (some ⟨g, 0, none⟩) N c1
  l : U.cell? ⟨w.heap.size + 1 + 1 + 1, 0, none⟩ = some (.slice (some ⟨ge, 0, none⟩) n n)
  lf : U.frozen? ⟨w.heap.size + 1 + 1 + 1, 0, none⟩ = false
  a : FBox U (w.heap.size + 1 + 1 + 1 + 1) a
def RelGF (w : World) (n N g c1 ge : Nat) (a : Fr) (x y : World) : Prop := But (fun b => b = w.heap.size + 1 + 1 ∨ b = w.heap.size + 1 + 1 + 1 ∨ b = w.heap.size + 1 + 1 + 1 + 1) x y ∧ (GdOF w n N g c1 ge a x → GdOF w n N g c1 ge a y)
theorem RelGF.refl {w : World} {n N g c1 ge : Nat} {a : Fr} (x : World) : RelGF w n N g c1 ge a x x := ⟨But.refl _ _, id⟩
theorem gd_laterF {w : World} {n N g c1 ge : Nat} {a : Fr} {x y : World} (h : GdOF w n N g c1 ge a x) (k : Bl x y) : GdOF w n N g c1 ge a y := ⟨h.m.later k, (bl_cell k _ _ (cell_lt9F h.l)).trans h.l, (bl_froz k _ _ (cell_lt9F h.l)).trans h.lf, h.a.later k⟩
theorem RelGF.refl0 {w : World} {n N g c1 ge : Nat} {a : Fr} (x : World) : RelGF w n N g c1 ge a x x.drew := ⟨But.of_bl (Bl.refl _).drew, fun h => gd_laterF h (Bl.refl _).drew⟩
theorem RelGF.trans {w : World} {n N g c1 ge : Nat} {a : Fr} {x y z : World} (h : RelGF w n N g c1 ge a x y) (k : RelGF w n N g c1 ge a y z) : RelGF w n N g c1 ge a x z := ⟨h.1.trans k.1, fun q => k.2 (h.2 q)⟩
theorem RelGF.m {w : World} {n N g c1 ge : Nat} {a : Fr} (u : World) : RelGF w n N g c1 ge a u (((u.setCell ⟨w.heap.size + 1 + 1, 0, none⟩ (.int .i64 n)).setCell ⟨w.heap.size + 1 + 1, 1, none⟩ (.int .i64 n)).setCell ⟨w.heap.size + 1 + 1, 2, none⟩ (.slice (some ⟨g, 0, none⟩) N c1)) := by
  have b : But (fun i => i = w.heap.size + 1 + 1) u (((u.setCell ⟨w.heap.size + 1 + 1, 0, none⟩ (.int .i64 n)).setCell ⟨w.heap.size + 1 + 1, 1, none⟩ (.int .i64 n)).setCell ⟨w.heap.size + 1 + 1, 2, none⟩ (.slice (some ⟨g, 0, none⟩) N c1)) := ((but_cell1 (S := fun i => i = w.heap.size + 1 + 1) rfl _ _ _).trans (but_cell1 (S := fun i => i = w.heap.size + 1 + 1) rfl _ _ _)).trans (but_cell1 (S := fun i => i = w.heap.size + 1 + 1) rfl _ _ _)
  exact ⟨b.mono fun i h => .inl h, fun h => ⟨h.m.fill _ _ _ _ _, (b.cell _ _ (cell_lt9F h.l) (by show ¬ w.heap.size + 1 + 1 + 1 = w.heap.size + 1 + 1; omega)).trans h.l, (b.froz _ _ (cell_lt9F h.l) (by show ¬ w.heap.size + 1 + 1 + 1 = w.heap.size + 1 + 1; omega)).trans h.lf, h.a.but b (by show ¬ w.heap.size + 1 + 1 + 1 + 1 = w.heap.size + 1 + 1; omega)⟩⟩
theorem RelGF.l {w : World} {n N g c1 ge : Nat} {a : Fr} (u : World) : RelGF w n N g c1 ge a u (u.setCell ⟨w.heap.size + 1 + 1 + 1, 0, none⟩ (.slice (some ⟨ge, 0, none⟩) n n)) := by
  have b : But (fun i => i = w.heap.size + 1 + 1 + 1) u (u.setCell ⟨w.heap.size + 1 + 1 + 1, 0, none⟩ (.slice (some ⟨ge, 0, none⟩) n n)) := but_cell1 (S := fun i => i = w.heap.size + 1 + 1 + 1) rfl _ _ _
  exact ⟨b.mono fun i h => .inr (.inl h), fun h => ⟨h.m.but b (by show ¬ w.heap.size + 1 + 1 = w.heap.size + 1 + 1 + 1; omega), by have := h.l; simp [go_sem, this], by have := h.lf; simp [go_sem, this], h.a.but b (by show ¬ w.heap.size + 1 + 1 + 1 + 1 = w.heap.size + 1 + 1 + 1; omega)⟩⟩
theorem RelGF.a {w : World} {n N g c1 ge : Nat} {a : Fr} (u : World) : RelGF w n N g c1 ge a u (((u.setCell ⟨w.heap.size + 1 + 1 + 1 + 1, 0, none⟩ (.int .i64 a.n)).setCell ⟨w.heap.size + 1 + 1 + 1 + 1, 1, none⟩ (.int .i64 a.d)).setCell ⟨w.heap.size + 1 + 1 + 1 + 1, 2, none⟩ (.bool a.bad)) := by
  have b : But (fun i => i = w.heap.size + 1 + 1 + 1 + 1) u (((u.setCell ⟨w.heap.size + 1 + 1 + 1 + 1, 0, none⟩ (.int .i64 a.n)).setCell ⟨w.heap.size + 1 + 1 + 1 + 1, 1, none⟩ (.int .i64 a.d)).setCell ⟨w.heap.size + 1 + 1 + 1 + 1, 2, none⟩ (.bool a.bad)) := butRF _ _ _ _ _
  exact ⟨b.mono fun i h => .inr (.inr h), fun h => ⟨h.m.but b (by show ¬ w.heap.size + 1 + 1 = w.heap.size + 1 + 1 + 1 + 1; omega), (b.cell _ _ (cell_lt9F h.l) (by show ¬ w.heap.size + 1 + 1 + 1 = w.heap.size + 1 + 1 + 1 + 1; omega)).trans h.l, (b.froz _ _ (cell_lt9F h.l) (by show ¬ w.heap.size + 1 + 1 + 1 = w.heap.size + 1 + 1 + 1 + 1; omega)).trans h.lf, h.a.fill a⟩⟩
theorem oneF (x : Fr) : ∀ v ∈ cellsF x, v.oneCell' = true := by
  intro v hv
  simp [cellsF] at hv
  rcases hv with rfl | rfl | rfl <;> rfl
theorem make_zeroOF (n : Nat) (hn : n ≤ 1000) (u : World) : ∃ u', (Instr.makeSlice 22 (.int .i64 n) (.int .i64 n)).run Tryz.prog u = .ok (.slice (some ⟨u.heap.size, 0, none⟩) n n) u' ∧ Rq 1 cI u' (.slice (some ⟨u.heap.size, 0, none⟩) n n) (linJ n fun _ => (0 : Int)) ∧ Bl u u' := by
  obtain ⟨i0, hi, hz0, hz1, hz2⟩ := info_parts (show (Tryz.prog.info? 3).map (fun i => (i.zero, i.size, i.bytes)) = some (some (.int .i64 0), 1, 8) by kernel_rfl)
  obtain ⟨u', h1, h2, h3⟩ := run_makeSlice_full (P := Tryz.prog) (w := u) u.heap.size 22 3 i0 (.int .i64 0) 1 (by kernel_rfl) hi hz0 hz1 .i64 .i64 n (by omega) (by rw [hz2]; omega) (by unfold maxLen; omega) (Nat.le_refl _)
  refine ⟨u', h1, ?_, (Bl.refl u).grown h3 (Nat.le_refl _) (fun k e => by cases e)⟩
  have e : (madeCells (Value.cells (.int .i64 0)) (n * 1)).toList = (linJ n fun _ => (0 : Int)).flatMap cI := by
    rw [show (linJ n fun _ => (0 : Int)).flatMap cI = (linJ n fun _ => (0 : Int)).map (fun x => (.int .i64 x : Value)) from flatI_map _, Nat.mul_one]
    rw [show (linJ n fun _ => (0 : Int)) = List.replicate n 0 from by unfold linJ; rw [List.map_const']; simp, List.map_replicate]
    exact toList_madeCells_one _ _
  rw [e] at h2
  have h4 := Rw.of_own (s := 1) (c := cI) (fun _ => rfl) (xs := linJ n fun _ => (0 : Int)) (by rw [linJ_len]; exact h2)
  exact h4.q
theorem whole_linOF (p : Option Addr) (n cap : Nat) (h : Nat → Int) (w : World) (hr : Rq 1 cI w (.slice p n cap) (linJ n h)) (hl : n ≤ 1000000) :
    Calls Tryz.prog 16 #[.slice p n cap] w fun e w' => ∃ q c, e = .returned (.slice q n c) ∧ Rw 3 cellsF w' (.slice q n c) (linJ n fun i => wholeF (h i)) ∧ Fresh w.heap.size (.slice q n c) ∧ Bl w w' :=
  (vWholeF' _ _ w hr (by rw [linJ_len]; exact hl)).mono fun e w' ⟨u, he, hr, hf, hb⟩ => by
    rw [linJ_map] at hr
    obtain ⟨q, c, rfl, _, _⟩ := hr.cut
    rw [linJ_len] at hr hf he
    exact ⟨q, c, he, hr, hf, hb⟩
theorem rq_cells0F {w : World} {p : Option Addr} {n cap : Nat} {f : Nat → Fr} (h : Rq 3 cellsF w (.slice p n cap) (linJ n f)) (h1 : 1 ≤ n) : ∃ b o, p = some ⟨b, o, none⟩ ∧ ∀ j v, ((linJ n f).flatMap cellsF)[j]? = some v → w.cell? ((⟨b, o, none⟩ : Addr).add j) = some v := by
  rcases h with ⟨p', cap', e, hx, _⟩ | ⟨b, o, cap', e, hc, hb, hx⟩
  · have := congrArg List.length hx
    rw [linJ_len] at this
    simp at this
    omega
  · simp only [Value.slice.injEq] at e
    refine ⟨b, o, e.1, fun j v hj => ?_⟩
    have hjl : j < n * 3 := by have := (List.getElem?_eq_some_iff.1 hj).1; rwa [flat_len cellsF_len, linJ_len] at this
    have h1 : j / 3 < n := (Nat.div_lt_iff_lt_mul (by decide)).2 hjl
    have h3 : j % 3 < 3 := Nat.mod_lt _ (by decide)
    have e2 : j = j / 3 * 3 + j % 3 := by rw [Nat.mul_comm]; exact (Nat.div_add_mod j 3).symm
    rw [e2, flat_get cellsF_len _ _ _ _ (linJ_get f h1) h3] at hj
    rw [add_off _ _ rfl]
    have := hx _ _ (linJ_get f h1) _ _ hj
    show w.cell? ⟨b, o + j, none⟩ = some v
    rw [e2, ← Nat.add_assoc]
    exact this
set_option maxRecDepth 100000 in
set_option maxHeartbeats 8000000 in
theorem rTakenF (n N : Nat) (p : Option Addr) (cap : Nat) (s : Nat → Nat → Fr) (ph : Option Addr) (ch : Nat) (h : Nat → Fr) (r : Fr) (w : World) (hS : Mx 3 cellsF w n n p N cap s) (hh : Rq 3 cellsF w (.slice ph n ch) (linJ n h)) :
    Calls Tryz.prog 67 #[mV n n p N cap, .slice ph n ch, frV r] w fun e w' => ∃ g c ge ce, e = .returned (.tuple #[mV n n (some ⟨g, 0, none⟩) N c, .slice (some ⟨ge, 0, none⟩) n ce, frV (runO kdF n s h r n).a]) ∧ (RwZ 3 cellsF w' w.heap.size (.slice (some ⟨g, 0, none⟩) N c) (mk n n (runO kdF n s h r n).s) ∧ RwZ 3 cellsF w' w.heap.size (.slice (some ⟨ge, 0, none⟩) n ce) (linJ n (runO kdF n s h r n).e)) ∧ Bl w w' := by
  have fm : Tryz.prog.follows .mixedOrders = true := by kernel_rfl
  have egW := enters_of Tryz.func16 (by kernel_rfl) rfl
  obtain ⟨i0, hi, hz0, hz1, hz2⟩ := info_parts Tryz.info_F
  refine (callsIn_wide (n := 8)).1 ?_
  have hd := hS.1
  have hN := hS.2.1
  have hfit := hS.fit
  have hn16 := hd.r2
  have n1 := hd.r1
  have HSM := hideP hS
  have HHM := hideP hh
  obtain ⟨W, hW⟩ : ∃ W, W = ((((w.alloc (.cells #[.int .i64 n, .int .i64 n, .slice p N cap] 30)).alloc (.cells #[.int .i64 r.n, .int .i64 r.d, .bool r.bad] 34)).alloc (.cells #[.int .i64 0, .int .i64 0, .slice none 0 0] 30)).alloc (.cells #[.slice none 0 0] 28)).alloc (.cells #[.int .i64 0, .int .i64 0, .bool false] 34) := ⟨_, rfl⟩
  have b0 : Bl w W := by rw [hW]; exact (((((Bl.refl _).alloc _).alloc _).alloc _).alloc _).alloc _
  have hWs : W.heap.size = w.heap.size + 1 + 1 + 1 + 1 + 1 := by rw [hW]; simp
  have m0 : MBox W w.heap.size n n p N cap := by rw [hW]; exact (MBox.new w _ _ _ _ _ _).later (((((Bl.refl _).alloc _).alloc _).alloc _).alloc _)
  have kr : FBox W (w.heap.size + 1) r := by rw [hW]; have := (FBox.new (w.alloc (.cells #[.int .i64 n, .int .i64 n, .slice p N cap] 30)) r 34).later ((((Bl.refl _).alloc (.cells #[.int .i64 0, .int .i64 0, .slice none 0 0] 30)).alloc (.cells #[.slice none 0 0] 28)).alloc (.cells #[.int .i64 0, .int .i64 0, .bool false] 34)); simp only [World.size_alloc] at this; exact this
  have z6 : MBox W (w.heap.size + 1 + 1) 0 0 none 0 0 := by rw [hW]; have := (MBox.new ((w.alloc (.cells #[.int .i64 n, .int .i64 n, .slice p N cap] 30)).alloc (.cells #[.int .i64 r.n, .int .i64 r.d, .bool r.bad] 34)) 0 0 none 0 0 30).later (((Bl.refl _).alloc (.cells #[.slice none 0 0] 28)).alloc (.cells #[.int .i64 0, .int .i64 0, .bool false] 34)); simp only [World.size_alloc] at this; exact this
  have s7 : W.cell? ⟨w.heap.size + 1 + 1 + 1, 0, none⟩ = some (.slice none 0 0) := by rw [hW]; simp [go_sem]
  have f7 : W.frozen? ⟨w.heap.size + 1 + 1 + 1, 0, none⟩ = false := by rw [hW]; simp [go_sem]
  have k8 : FBox W (w.heap.size + 1 + 1 + 1 + 1) zeroR := by rw [hW]; have := (FBox.new ((((w.alloc (.cells #[.int .i64 n, .int .i64 n, .slice p N cap] 30)).alloc (.cells #[.int .i64 r.n, .int .i64 r.d, .bool r.bad] 34)).alloc (.cells #[.int .i64 0, .int .i64 0, .slice none 0 0] 30)).alloc (.cells #[.slice none 0 0] 28)) zeroR 34); simp only [World.size_alloc] at this; exact this
  have NW := hideP (mNewZF (n : Int) (n : Int) p N cap (mk n n s) W (hS.2.2.later b0) hfit (by rw [mk_len, hN]))
  have HW := hideP hW
  have HNN := hideP hN
  clear hW hS hh hN
  refine callsIn_of_wp_marks Tryz.func67 rfl trivial ?_ rfl
  refine wpIn_wide.2 ?_
  simp only [Tryz.ntmps67, List.size_toArray, List.length_cons, List.length_nil, Nat.reduceAdd, Nat.reduceSub, Array.replicate_succ, Array.replicate_zero, List.push_toArray, List.append_toArray, List.nil_append, List.cons_append]
  obtain ⟨c0, c1, c2, _, _, _, _⟩ := id m0
  rw [HW.out] at c0 c1 c2
  go_wp2_with fail
  try simp only [World.size_alloc]
  rw [← HW.out]
  refine NW.out.mono ?_
  rintro e w1 ⟨p1, c1', rfl, hZ, h1⟩
  clear c0 c1 c2 NW
  obtain ⟨g, cg, eg, hcg, hlog, hgl, _, _⟩ := id hZ
  simp only [Value.slice.injEq] at eg
  obtain ⟨rfl, e2, e3⟩ := eg
  clear e2 e3 hcg
  obtain ⟨W1, hW1⟩ : ∃ W1, W1 = ((w1.setCell ⟨w.heap.size + 1 + 1, 0, none⟩ (.int .i64 n)).setCell ⟨w.heap.size + 1 + 1, 1, none⟩ (.int .i64 n)).setCell ⟨w.heap.size + 1 + 1, 2, none⟩ (.slice (some ⟨g, 0, none⟩) N c1') := ⟨_, rfl⟩
  have bu1 : But (fun b => b = w.heap.size + 1 + 1) w1 W1 := by rw [hW1]; exact ((but_cell1 (S := fun i => i = w.heap.size + 1 + 1) rfl _ _ _).trans (but_cell1 (S := fun i => i = w.heap.size + 1 + 1) rfl _ _ _)).trans (but_cell1 (S := fun i => i = w.heap.size + 1 + 1) rfl _ _ _)
  have B1 : Bl w W1 := by rw [hW1]; exact Bl.put3 (b0.trans h1) (by omega) _ _ _
  have z61 : MBox W1 (w.heap.size + 1 + 1) n n (some ⟨g, 0, none⟩) N c1' := by rw [hW1]; exact (z6.later h1).fill _ _ _ _ _
  have m1 : MBox W1 w.heap.size n n p N cap := (m0.later h1).but bu1 (by omega)
  have kr1 : FBox W1 (w.heap.size + 1) r := (kr.later h1).but bu1 (by omega)
  have k81 : FBox W1 (w.heap.size + 1 + 1 + 1 + 1) zeroR := (k8.later h1).but bu1 (by omega)
  have s71 : W1.cell? ⟨w.heap.size + 1 + 1 + 1, 0, none⟩ = some (.slice none 0 0) := (bu1.cell _ _ (by have := h1.size; omega) (by omega)).trans ((bl_cell h1 _ _ (by omega)).trans s7)
  have f71 : W1.frozen? ⟨w.heap.size + 1 + 1 + 1, 0, none⟩ = false := (bu1.froz _ _ (by have := h1.size; omega) (by omega)).trans ((bl_froz h1 _ _ (by omega)).trans f7)
  have HZ1 := hideP (hZ.but bu1 (fun b hb => by cases hb; show ¬ g = w.heap.size + 1 + 1; omega))
  have g1l : g < W1.heap.size := HZ1.out.glt
  have w1s : w.heap.size + 1 + 1 + 1 + 1 + 1 ≤ W1.heap.size := by have := h1.size; have := bu1.size; omega
  obtain ⟨q0, q1, q2, q3, q4, q5, _⟩ := z6.later h1
  obtain ⟨c0, c1, c2, _, _, _, _⟩ := id m1
  have HW1 := hideP hW1
  rw [hW1] at c0 c1 c2
  clear hW1 hZ m0 kr z6 s7 f7 k8
  go_wp2_with fail
  rw [← HW1.out]
  refine (mTurnF n n p N cap s W1 (HSM.out.later B1)).mono ?_
  rintro e w2 ⟨p2, c2', rfl, ⟨hT, _, _⟩, h2⟩
  clear q0 q1 q2 q3 q4 q5 c0 c1 c2
  go_wp2_with fail
  refine (mApplyF' n n p2 N c2' (fun i k => s k i) ph ch (linJ n h) w2 hT (HHM.out.later (B1.trans h2)) (linJ_len _ _)).mono ?_
  rintro e w3 ⟨pw, cw, rfl, hRw, hFw, h3⟩
  have HRW := hideP (show Rw 3 cellsF w3 (.slice pw n cw) (linJ n (wO kdF n s h)) from hRw)
  have b13 : Bl W1 w3 := h2.trans h3
  clear hT hRw
  have s73 := (bl_cell b13 _ 0 (by omega)).trans s71
  have f73 := (bl_froz b13 _ 0 (by omega)).trans f71
  have hse : w.heap.size + 1 + 1 + 1 < w3.heap.size := by have := b13.size; omega
  go_wp2_with (at_make; refine wpList_make_full _ rfl _ _ 28 rfl w3.heap.size 34 i0 (.agg #[.int .i64 0, .int .i64 0, .bool false]) 3 Tryz.underlying28 hi hz0 hz1 .i64 .i64 _ _ n rfl rfl (by simp) (by simp) (by rw [hz2]; omega) (by unfold maxLen; omega) (by simp) ?_; intro w4 hown4 hgrow4; have s74 := (bl_cell ((Bl.refl w3).grown hgrow4 (Nat.le_refl _) (fun k e => by cases e)) _ 0 hse).trans s73; have f74 := (bl_froz ((Bl.refl w3).grown hgrow4 (Nat.le_refl _) (fun k e => by cases e)) _ 0 hse).trans f73)
  obtain ⟨ge, hge⟩ : ∃ ge, ge = w3.heap.size := ⟨_, rfl⟩
  have b34 : Bl w3 w4 := (Bl.refl w3).grown hgrow4 (Nat.le_refl _) (fun k e => by cases e)
  obtain ⟨W4, hW4⟩ : ∃ W4, W4 = w4.setCell ⟨w.heap.size + 1 + 1 + 1, 0, none⟩ (.slice (some ⟨w3.heap.size, 0, none⟩) n n) := ⟨_, rfl⟩
  have bu4 : But (fun b => b = w.heap.size + 1 + 1 + 1) w4 W4 := by rw [hW4]; exact but_cell1 (S := fun i => i = w.heap.size + 1 + 1 + 1) rfl _ _ _
  have own4 := ownsRow_setCell_below hown4 (a := ⟨w.heap.size + 1 + 1 + 1, 0, none⟩) hse (.slice (some ⟨w3.heap.size, 0, none⟩) n n)
  rw [← hW4, ← hge] at own4
  have s7w : W4.cell? ⟨w.heap.size + 1 + 1 + 1, 0, none⟩ = some (.slice (some ⟨ge, 0, none⟩) n n) := by rw [hW4, hge]; simp [go_sem, s74]
  have HW4 := hideP hW4
  have geW : ge < W4.heap.size := (own4.lt ge rfl).2
  have OWN4 := hideP own4
  clear hW4 s74 f74 own4 hown4
  have w4s : W4.heap.size = w4.heap.size := by rw [HW4.out]; simp
  have bw34 : w3.heap.size ≤ w4.heap.size := b34.size
  have HRW4 := hideP ((HRW.out.later b34).but bu4 (fun b hb => by have := hFw b hb; have := h2.size; show ¬ b = w.heap.size + 1 + 1 + 1; omega))
  have gwn : ∀ b, (Value.slice pw n cw).ownBlock = some b → b ≠ ge ∧ b ≠ g ∧ w.heap.size + 1 + 1 + 1 + 1 < b := fun b hb => by
    have h5 := hFw b hb
    have h6 := HRW.out.lt b hb
    have h7 := h2.size
    exact ⟨by omega, by omega, by omega⟩
  have HZ4 := hideP (((HZ1.out.later b13).later b34).but bu4 (fun b hb => by cases hb; show ¬ g = w.heap.size + 1 + 1 + 1; omega))
  have b14 : Bl W1 w4 := b13.trans b34
  have z64 : MBox W4 (w.heap.size + 1 + 1) n n (some ⟨g, 0, none⟩) N c1' := (z61.later b14).but bu4 (by omega)
  have kr4 : FBox W4 (w.heap.size + 1) r := (kr1.later b14).but bu4 (by omega)
  have k84 : FBox W4 (w.heap.size + 1 + 1 + 1 + 1) zeroR := (k81.later b14).but bu4 (by omega)
  have f7w : W4.frozen? ⟨w.heap.size + 1 + 1 + 1, 0, none⟩ = false := by rw [HW4.out]; simp [go_sem]; exact (bl_froz b34 _ 0 hse).trans f73
  have B4 : Bl w W4 := by rw [HW4.out]; exact Bl.set ((B1.trans b14)) (by show w.heap.size ≤ w.heap.size + 1 + 1 + 1; omega) _
  have g5 : g < ge := by have := b13.size; omega
  have ge5 : w.heap.size + 1 + 1 + 1 + 1 + 1 ≤ ge := by have := b13.size; omega
  have gge : g ≠ ge := by omega
  have SEVEN := fun (u : World) (hu : RelOF ge w3.heap.size n (linJ n fun _ => wholeF 0) W4 u) => (hu.but.cell (w.heap.size + 1 + 1 + 1) 0 (by omega) (by omega)).trans s7w
  have GEU := fun (u : World) (hu : RelOF ge w3.heap.size n (linJ n fun _ => wholeF 0) W4 u) => Nat.lt_of_lt_of_le geW hu.but.size
  have FL : ((linJ n fun _ => wholeF 0).flatMap cellsF).length = n * 3 := by rw [flat_len cellsF_len, linJ_len]
  have ONEC : ∀ v ∈ (linJ n fun _ => wholeF 0).flatMap cellsF, v.oneCell' = true := fun v hv => by
    obtain ⟨x, _, hx⟩ := List.mem_flatMap.1 hv
    exact oneF x v hx
  have CANZ : ∀ u (hu : RelOF ge w3.heap.size n (linJ n fun _ => wholeF 0) W4 u), (∀ j, j < ((linJ n fun _ => wholeF 0).flatMap cellsF).length → (u.cell? ⟨ge, 0 + j, none⟩).isSome = true) ∧ (∀ j, j < ((linJ n fun _ => wholeF 0).flatMap cellsF).length → u.frozen? ⟨ge, 0 + j, none⟩ = false) ∧ RwZ 3 cellsF (u.setCells ge 0 ((linJ n fun _ => wholeF 0).flatMap cellsF)) w3.heap.size (.slice (some ⟨ge, 0, none⟩) n n) (linJ n fun _ => wholeF 0) := fun u hu => by
    rcases hu with hb | ⟨_, hz⟩
    · have H := RwZ.copy cellsF_len (own_blF OWN4.out hb) (xs := linJ n fun _ => wholeF 0) (linJ_len _ _) n1
      rw [Nat.zero_mul] at H
      exact ⟨H.2.1, fun j _ => H.2.2 j, H.1.base (by omega)⟩
    · have H := RwZ.againF hz
      exact ⟨H.1, H.2, RwZ.copy2F hz⟩
  clear s71 f71 s73 f73 hi hz0 hz1 hz2
  rw [← HW4.out, ← hge]
  have HGE := hideP hge
  clear hge
  refine (wpIn_wide (n := 8)).1 (region_r fm (RelOF ge w3.heap.size n (linJ n fun _ => wholeF 0)) [some 33, some 34, some 35, some 36, some 37, some 38] (by kernel_rfl) (by rfl) (.inl (Bl.refl _).drew) (fun h k => h.trans k)
    (fun j v u => match j with | 0 => v = .slice (some ⟨ge, 0, none⟩) n n | 1 => v = .slice ph n ch | 2 => v = .int .i64 n | 3 => ∃ g', v = .slice (some ⟨g', 0, none⟩) n n ∧ Rq 1 cI u (.slice (some ⟨g', 0, none⟩) n n) (linJ n fun _ => (0 : Int)) ∧ g' ≠ ge | 4 => ∃ q c, v = .slice q n c ∧ Rw 3 cellsF u (.slice q n c) (linJ n fun _ => wholeF 0) ∧ ∀ g', (Value.slice q n c).ownBlock = some g' → g' ≠ ge | 5 => v = .int .i64 n ∧ RwZ 3 cellsF u w3.heap.size (.slice (some ⟨ge, 0, none⟩) n n) (linJ n fun _ => wholeF 0) | _ => False)
    (by
      intro j v u u' hR0 hb h
      split at h <;> first | exact h | (obtain ⟨g', e, h1, h2⟩ := h; exact ⟨g', e, rq_butF h1 hb.but (fun g hg => by cases hg; exact h2), h2⟩) | (obtain ⟨q, c, e, h1, h2⟩ := h; exact ⟨q, c, e, h1.but hb.but h2, h2⟩) | exact ⟨h.1, hb.rwz h.2⟩) ?step ?fin)
  case step =>
    intro j o act u ho hsz hu hfr hin hnon
    have hj : j < 6 := (Array.getElem?_eq_some_iff.1 ho).1
    have s7' := SEVEN u hu
    have hgeu : ge < u.heap.size := GEU u hu
    rcases (by omega : j = 0 ∨ j = 1 ∨ j = 2 ∨ j = 3 ∨ j = 4 ∨ j = 5) with rfl | rfl | rfl | rfl | rfl | rfl
    · simp only [List.getElem?_toArray, List.getElem?_cons_zero, List.getElem?_cons_succ, Option.some.injEq] at ho
      subst ho
      have i7 : act.eval (.tmp (7 : Nat)) = .pointer (some ⟨w.heap.size + 1 + 1 + 1, 0, none⟩) := hfr 7 (by decide)
      exact plain_wp (by intro c h; cases h) (fun _ _ => trivial) (by simp only [execOp, i7, evalC, evalF, evalG]; simp [go_sem, s7']) ⟨_, rfl, rfl, .inl (Bl.refl _)⟩
    · simp only [List.getElem?_toArray, List.getElem?_cons_zero, List.getElem?_cons_succ, Option.some.injEq] at ho
      subst ho
      have i1 : act.eval (.tmp (1 : Nat)) = .slice ph n ch := hfr 1 (by decide)
      exact plain_wp (by intro c h; cases h) (fun _ _ => trivial) (by simp only [execOp, i1, evalC, evalF, evalG]; simp [go_sem, hn16]) ⟨_, rfl, rfl, .inl (Bl.refl _)⟩
    · simp only [List.getElem?_toArray, List.getElem?_cons_zero, List.getElem?_cons_succ, Option.some.injEq] at ho
      subst ho
      have i34 : (act.eval (.tmp (34 : Nat))) = .slice ph n ch := hin ⟨1, .data⟩ (by simp) rfl 34 rfl
      exact plain_wp (by intro c h; cases h) (fun _ _ => trivial) (by simp only [execOp, resolve, List.map_toArray, List.map_cons, List.map_nil, i34]; simp [invoke, builtin, Builtin.len_, Builtin.lenOf, Result.andThen, go_sem]) ⟨_, rfl, rfl, .inl (Bl.refl _)⟩
    · simp only [List.getElem?_toArray, List.getElem?_cons_zero, List.getElem?_cons_succ, Option.some.injEq] at ho
      subst ho
      have i35 : (act.eval (.tmp (35 : Nat))) = .int .i64 n := hin ⟨2, .data⟩ (by simp) rfl 35 rfl
      obtain ⟨u', hr, hq, hb⟩ := make_zeroOF n (by omega) u
      exact plain_wp (by intro c h; cases h) (fun _ _ => trivial) (w' := u') (v := .slice (some ⟨u.heap.size, 0, none⟩) n n) (by simp only [execOp, i35]; rw [Sem.run_bind, hr]; rfl) ⟨_, rfl, ⟨u.heap.size, rfl, hq, by have := hgeu; omega⟩, .inl hb⟩
    · simp only [List.getElem?_toArray, List.getElem?_cons_zero, List.getElem?_cons_succ, Option.some.injEq] at ho
      subst ho
      have i36 : ∃ g', (act.eval (.tmp (36 : Nat))) = .slice (some ⟨g', 0, none⟩) n n ∧ Rq 1 cI u (.slice (some ⟨g', 0, none⟩) n n) (linJ n fun _ => (0 : Int)) ∧ g' ≠ ge := hin ⟨3, .data⟩ (by simp) rfl 36 rfl
      obtain ⟨g0, e0, hg, _⟩ := i36
      refine enter_wp 16 #[.slice (some ⟨g0, 0, none⟩) n n] (by intro c h; cases h) (fun _ _ => trivial) (by simp only [execOp, evalC, evalF, evalG, resolve, e0, List.map_toArray, List.map_cons, List.map_nil]; simp [invoke, egW, Result.andThen, go_sem]) (by intro h; cases h) (callsIn_wide.2 (whole_linOF _ n n (fun _ => (0 : Int)) u hg (by omega))) ?_
      rintro e w' ⟨q, c, rfl, hR, hF, hb⟩
      exact ⟨_, rfl, _, rfl, ⟨q, c, rfl, hR, fun g' e => by have := hF g' e; have := hgeu; omega⟩, .inl hb⟩
    · simp only [List.getElem?_toArray, List.getElem?_cons_zero, List.getElem?_cons_succ, Option.some.injEq] at ho
      subst ho
      have i33 : (act.eval (.tmp (33 : Nat))) = .slice (some ⟨ge, 0, none⟩) n n := hin ⟨0, .data⟩ (by simp) rfl 33 rfl
      have i37 : ∃ q c, (act.eval (.tmp (37 : Nat))) = .slice q n c ∧ Rw 3 cellsF u (.slice q n c) (linJ n fun _ => wholeF 0) ∧ ∀ g', (Value.slice q n c).ownBlock = some g' → g' ≠ ge := hin ⟨4, .data⟩ (by simp) rfl 37 rfl
      obtain ⟨q0, c0', e0, hq, hqn⟩ := i37
      obtain ⟨gq, oq, rfl, CQ⟩ := rq_cells0F hq.q (by omega)
      obtain ⟨hsm, hfz, hnew⟩ := CANZ u hu
      exact plain_wp (by intro c h; cases h) (fun _ _ => trivial) (v := .int .i64 n) (by simp only [execOp, resolve, List.map_toArray, List.map_cons, List.map_nil, i33, e0]; simp [invoke, builtin, goInt, run_copy_s (P := Tryz.prog) u 28 28 _ 34 3 ge 0 n n ⟨gq, oq, none⟩ n c0' n ((linJ n fun _ => wholeF 0).flatMap cellsF) Tryz.underlying28 Tryz.sizeF (by simp) FL CQ hsm hfz ONEC, Result.andThen]) ⟨_, rfl, ⟨rfl, hnew⟩, .inr ⟨but_setCells (S := fun b => b = ge) (b := ge) rfl _ _ _ _ (But.refl _ _), hnew⟩⟩
  case fin =>
    intro vs u hu hin hnon
    have a0 := hin 0 33 rfl
    have a1 := hin 1 34 rfl
    have a2 := hin 2 35 rfl
    have a3 := hin 3 36 rfl
    have a4 := hin 4 37 rfl
    have a5 := hin 5 38 rfl
    simp only [putL, Act.put, List.setIfInBounds_toArray, List.set_cons_zero, List.set_cons_succ, Nat.zero_add, Nat.reduceAdd, if_true, reduceIte] at a0 a1 a2 a3 a4 a5 ⊢
    simp only [a0, a1, a2, a5]
    obtain ⟨w5, rfl⟩ : ∃ w5, w5 = u := ⟨_, rfl⟩
    have bu45 : But (fun b => b = ge) W4 w5 := hu.but
    have HE5 := hideP a5.2
    have HZ5 := hideP (HZ4.out.but bu45 (fun b hb => by cases hb; exact gge))
    have HRW5 := hideP (HRW4.out.but bu45 (fun b hb => (gwn b hb).1))
    have z65 : MBox w5 (w.heap.size + 1 + 1) n n (some ⟨g, 0, none⟩) N c1' := z64.but bu45 (by show ¬ w.heap.size + 1 + 1 = ge; omega)
    have kr5 : FBox w5 (w.heap.size + 1) r := kr4.but bu45 (by show ¬ w.heap.size + 1 = ge; omega)
    have k85 : FBox w5 (w.heap.size + 1 + 1 + 1 + 1) zeroR := k84.but bu45 (by show ¬ w.heap.size + 1 + 1 + 1 + 1 = ge; omega)
    have s75 : w5.cell? ⟨w.heap.size + 1 + 1 + 1, 0, none⟩ = some (.slice (some ⟨ge, 0, none⟩) n n) := (bu45.cell _ _ (by omega) (by show ¬ w.heap.size + 1 + 1 + 1 = ge; omega)).trans s7w
    have f75 : w5.frozen? ⟨w.heap.size + 1 + 1 + 1, 0, none⟩ = false := (bu45.froz _ _ (by omega) (by show ¬ w.heap.size + 1 + 1 + 1 = ge; omega)).trans f7w
    have B5 : Bl w w5 := bu45.bl B4 (fun i hi => by have : i = ge := hi; omega)
    have w5s : W4.heap.size ≤ w5.heap.size := bu45.size
    clear a0 a1 a2 a3 a4 a5 hin hnon SEVEN GEU CANZ s7w f7w z64 kr4 k84
    obtain ⟨W5, hW5⟩ : ∃ W5, W5 = (((w5.setCell ⟨w.heap.size + 1 + 1 + 1 + 1, 0, none⟩ (.int .i64 r.n)).setCell ⟨w.heap.size + 1 + 1 + 1 + 1, 1, none⟩ (.int .i64 r.d)).setCell ⟨w.heap.size + 1 + 1 + 1 + 1, 2, none⟩ (.bool r.bad)) := ⟨_, rfl⟩
    have bu5 : But (fun b => b = w.heap.size + 1 + 1 + 1 + 1) w5 W5 := by rw [hW5]; exact butRF _ _ _ _ _
    have kA : FBox W5 (w.heap.size + 1 + 1 + 1 + 1) r := by rw [hW5]; exact k85.fill r
    have HZ6 := hideP (HZ5.out.but bu5 (fun b hb => by cases hb; show ¬ g = w.heap.size + 1 + 1 + 1 + 1; omega))
    have HE6 := hideP (HE5.out.but bu5 (fun b hb => by cases hb; show ¬ ge = w.heap.size + 1 + 1 + 1 + 1; omega))
    have HRW6 := hideP (HRW5.out.but bu5 (fun b hb => by have := (gwn b hb).2.2; show ¬ b = w.heap.size + 1 + 1 + 1 + 1; omega))
    have z66 : MBox W5 (w.heap.size + 1 + 1) n n (some ⟨g, 0, none⟩) N c1' := z65.but bu5 (by omega)
    have s76 : W5.cell? ⟨w.heap.size + 1 + 1 + 1, 0, none⟩ = some (.slice (some ⟨ge, 0, none⟩) n n) := (bu5.cell _ _ (by omega) (by omega)).trans s75
    have f76 : W5.frozen? ⟨w.heap.size + 1 + 1 + 1, 0, none⟩ = false := (bu5.froz _ _ (by omega) (by omega)).trans f75
    have B6 : Bl w W5 := bu5.bl B5 (fun i hi => by have : i = w.heap.size + 1 + 1 + 1 + 1 := hi; omega)
    have w6s : w5.heap.size ≤ W5.heap.size := bu5.size
    obtain ⟨c0, c1, c2, f0, f1, f2, _⟩ := kr5
    obtain ⟨d0, d1, d2, g0, g1, g2, _⟩ := k85
    have HW5 := hideP hW5
    clear hW5 z65 s75 f75
    go_wp2_with fail
    rw [← HW5.out]
    refine (backwardF n pw cw (wO kdF n s h) W5 HRW6.out).mono ?_
    rintro e w6 ⟨rfl, hkb, hw6⟩
    have b56 : Bl W5 w6 := by rw [hw6]; exact (Bl.refl _).alloc _
    have h6s : w6.heap.size = W5.heap.size + 1 := by rw [hw6]; simp
    have HKB := hideP hkb
    clear hw6 hkb c0 c1 c2 f0 f1 f2 d0 d1 d2 g0 g1 g2
    have I0 : StIF w n N g c1' ge w6.heap.size ⟨s, fun _ => wholeF 0, r⟩ w6 := ⟨(HZ6.out.later b56).base (by omega), (HE6.out.later b56).base (by omega), kA.later b56, z66.later b56, (bl_cell b56 _ _ (by omega)).trans s76, (bl_froz b56 _ _ (by omega)).trans f76, B6.trans b56, Nat.le_refl _⟩
    go_wp2_with fail
    refine (wpIn_wide (n := 8)).1 (rangeW rfl (by omega) (gf := 142) (lb := #[.pointer (some ⟨W5.heap.size, 0, none⟩)]) rfl trivial (enters_of Tryz.func142 (by kernel_rfl) rfl)
      (seqBF 7 W5.heap.size n pw cw (wO kdF n s h) (But (fun b => b = g ∨ b = ge ∨ b = w.heap.size + 1 + 1 + 1 + 1 ∨ w6.heap.size ≤ b)) (fun {A C} hk hb => keptB_butF hk hb (by show ¬ (W5.heap.size = g ∨ W5.heap.size = ge ∨ W5.heap.size = w.heap.size + 1 + 1 + 1 + 1 ∨ w6.heap.size ≤ W5.heap.size); omega) (fun b hb => by have := gwn b hb; have := HRW6.out.lt b hb; show ¬ (b = g ∨ b = ge ∨ b = w.heap.size + 1 + 1 + 1 + 1 ∨ w6.heap.size ≤ b); omega)) w6 (by omega) (fun U hU => ⟨(bl_cell hU _ _ (by omega)).trans HKB.out.box, HKB.out.row.later hU⟩))
      (fun x A B h => by rw [h.1]; exact Bl.refl _) (fun h k => h.trans k) (fun U l o o' hl _ _ _ => but_putObj9F _ (.inr (.inr (.inr hl)))) (fun _ => rfl)
      (fun pre U => StIF w n N g c1' ge w6.heap.size (foldO kdF n ⟨s, fun _ => wholeF 0, r⟩ pre) U) (fun _ _ _ => False) (fun pre X Y row hs hg hr => sti_ownF hs n1 HNN.out (by omega) hg hr) (fun _ _ _ _ _ hs _ _ => hs) I0
      (fun a pre x a' U => x.1 < n ∧ ∃ b, FBox U b x.2 ∧ w6.heap.size ≤ b ∧ a' = { tmps := ((((a.tmps.setIfInBounds 42 (.int .i64 x.1)).setIfInBounds 43 (frV x.2)).setIfInBounds 11 (.int .i64 x.1)).setIfInBounds 12 (.pointer (some ⟨b, 0, none⟩))), defers := [] })
      (fun pre x a' _ X Y row hs hg hr => by
        obtain ⟨h1, b, h2, h3, h4⟩ := hs
        exact ⟨h1, b, box_blk9F h2 (own_blk9F h2.c0 hg (fun r e => (hr r e).2)) hg.size, h3, h4⟩)
      ?assign ?body ?done ?stop)
    case assign =>
      rintro l pre x W0 U K' hI0 ⟨rfl, hx⟩ hI hK'
      have HK3 := hideP hK'
      have HI := hideP hI
      clear hK' hI hI0
      have kB : Bl U (U.alloc (.cells #[.int .i64 x.2.n, .int .i64 x.2.d, .bool x.2.bad] 34)) := (Bl.refl _).alloc _
      have hU := HI.out.sz
      gi_wp2
      refine HK3.out _ _ (kB.keeps _) (But.of_bl kB) (sti_laterF HI.out kB) ⟨hx, U.heap.size, FBox.new U x.2 _, hU, ?_⟩
      simp only [List.setIfInBounds_toArray, List.set_cons_zero, List.set_cons_succ]
    case stop =>
      rintro D' c pre U _ _ h _
      exact h.elim
    case body =>
      rintro l pre x a' U hl' ⟨rl, hr'⟩ hI ⟨hx, b, hbx, hbl, rfl⟩ hlt
      simp only [List.setIfInBounds_toArray, List.set_cons_zero, List.set_cons_succ]
      obtain ⟨T, hT⟩ : ∃ T, T = foldO kdF n ⟨s, fun _ => wholeF 0, r⟩ pre := ⟨_, rfl⟩
      rw [← hT] at hI
      have HI := hideP hI
      have HT := hideP hT
      obtain ⟨m0, m1, m2, _, _, _, _⟩ := hI.m
      have l0 := hI.l
      obtain ⟨c0, c1, c2, f0, f1, f2, _⟩ := hbx
      obtain ⟨d0, d1, d2, g0, g1, g2, _⟩ := hI.a
      obtain ⟨nb, hnb⟩ : ∃ y, y = bO kdF T.a x.2 := ⟨_, rfl⟩
      have CH := hideP (by have := rChangeF n N g c1' ge n x.1 w.heap.size T x.2 U hd HNN.out hI.s hI.e gge hx; rw [← hnb] at this; exact this)
      have HNB := hideP hnb
      clear hI hT hnb hr'
      gi_wp2_with fail
      refine ⟨trivial, ?_⟩
      refine (CallsIn.inRound l (callsIn_wide.2 CH.out)).mono ?_
      rintro e w9 ⟨rfl, hs9, he9, bt9⟩
      have bt9' : But (fun b => b = g ∨ b = ge) U w9 := bt9
      have hU := HI.out.sz
      have kA9 : FBox w9 (w.heap.size + 1 + 1 + 1 + 1) T.a := HI.out.a.but bt9 (by show ¬ (w.heap.size + 1 + 1 + 1 + 1 = g ∨ w.heap.size + 1 + 1 + 1 + 1 = ge); omega)
      have HS9 := hideP hs9
      have HE9 := hideP he9
      clear m0 m1 m2 l0 c0 c1 c2 f0 f1 f2 d0 d1 d2 g0 g1 g2 hs9 he9 bt9
      obtain ⟨d0, d1, d2, g0, g1, g2, _⟩ := id kA9
      gi_wp2
      obtain ⟨W9, hW9⟩ : ∃ W9, W9 = (((w9.setCell ⟨w.heap.size + 1 + 1 + 1 + 1, 0, none⟩ (.int .i64 nb.n)).setCell ⟨w.heap.size + 1 + 1 + 1 + 1, 1, none⟩ (.int .i64 nb.d)).setCell ⟨w.heap.size + 1 + 1 + 1 + 1, 2, none⟩ (.bool nb.bad)) := ⟨_, rfl⟩
      have bu9 : But (fun b => b = w.heap.size + 1 + 1 + 1 + 1) w9 W9 := by rw [hW9]; exact butRF _ _ _ _ _
      have kf9 : FBox W9 (w.heap.size + 1 + 1 + 1 + 1) nb := by rw [hW9]; exact kA9.fill nb
      have b9 : But (fun b => b = g ∨ b = ge ∨ b = w.heap.size + 1 + 1 + 1 + 1) U W9 := (bt9'.mono (fun i h => by rcases h with h | h; exact .inl h; exact .inr (.inl h))).trans (bu9.mono (fun i h => .inr (.inr h)))
      rw [← hW9]
      refine ⟨⟨b9.size, fun k o hB hk _ => (b9.block k (Array.getElem?_eq_some_iff.1 hk).1 (by show ¬ (k = g ∨ k = ge ∨ k = w.heap.size + 1 + 1 + 1 + 1); omega)).trans hk⟩, b9.mono (fun i h => by rcases h with h | h | h; exact .inl h; exact .inr (.inl h); exact .inr (.inr (.inl h))), ?_⟩
      show StIF w n N g c1' ge w6.heap.size (foldO kdF n ⟨s, fun _ => wholeF 0, r⟩ (pre ++ [x])) W9
      rw [foldO_next, ← HT.out]
      refine ⟨HS9.out.but bu9 (fun b hb => by cases hb; show ¬ g = w.heap.size + 1 + 1 + 1 + 1; omega), HE9.out.but bu9 (fun b hb => by cases hb; show ¬ ge = w.heap.size + 1 + 1 + 1 + 1; omega), ?_, HI.out.m.but b9 (by show ¬ (w.heap.size + 1 + 1 = g ∨ w.heap.size + 1 + 1 = ge ∨ w.heap.size + 1 + 1 = w.heap.size + 1 + 1 + 1 + 1); omega), (b9.cell _ _ (cell_lt9F HI.out.l) (by show ¬ (w.heap.size + 1 + 1 + 1 = g ∨ w.heap.size + 1 + 1 + 1 = ge ∨ w.heap.size + 1 + 1 + 1 = w.heap.size + 1 + 1 + 1 + 1); omega)).trans HI.out.l, (b9.froz _ _ (cell_lt9F HI.out.l) (by show ¬ (w.heap.size + 1 + 1 + 1 = g ∨ w.heap.size + 1 + 1 + 1 = ge ∨ w.heap.size + 1 + 1 + 1 = w.heap.size + 1 + 1 + 1 + 1); omega)).trans HI.out.lf, b9.bl HI.out.bl (fun i h => by have h' : i = g ∨ i = ge ∨ i = w.heap.size + 1 + 1 + 1 + 1 := h; omega), Nat.le_trans HI.out.sz b9.size⟩
      show FBox W9 _ (bO kdF T.a x.2)
      rw [← HNB.out]
      exact kf9
    case done =>
      rintro Dm zs U hD hS hI hKD
      subst hS
      obtain ⟨T, hT⟩ : ∃ T, T = runO kdF n s h r n := ⟨_, rfl⟩
      rw [show foldO kdF n ⟨s, fun _ => wholeF 0, r⟩ (zsBF n (wO kdF n s h) n) = T from by rw [hT]; exact foldO_run kdF n s h r n] at hI
      have HI := hideP hI
      have HKD := hideP hKD
      have HTR := hideP hT
      obtain ⟨ta, hta⟩ : ∃ y, y = T.a := ⟨_, rfl⟩
      have G0 : GdOF w n N g c1' ge ta U := ⟨hI.m, hI.l, hI.lf, by rw [hta]; exact hI.a⟩
      have HTA := hideP hta
      clear hT hta hI hKD
      go_wp2_with fail
      refine (wpIn_wide (n := 8)).1 (region_r fm (RelGF w n N g c1' ge ta) [some 50, some 51, some 52, none, none, none] (by kernel_rfl) (by rfl) (RelGF.refl0 _) (fun h k => h.trans k)
        (fun j v u => match j with | 0 => v = mV n n (some ⟨g, 0, none⟩) N c1' | 1 => v = .slice (some ⟨ge, 0, none⟩) n n | 2 => v = frV ta | 3 => True | 4 => True | 5 => True | _ => False)
        (fun j v u u' _ _ h => h) ?step ?fin)
      case step =>
        intro j o act u ho hsz hu hfr hin hnon
        have hj : j < 6 := (Array.getElem?_eq_some_iff.1 ho).1
        obtain ⟨⟨m0, m1, m2, x0, x1, x2, _⟩, l0, lf0, ⟨d0, d1, d2, g0, g1, g2, _⟩⟩ := hu.2 G0
        rcases (by omega : j = 0 ∨ j = 1 ∨ j = 2 ∨ j = 3 ∨ j = 4 ∨ j = 5) with rfl | rfl | rfl | rfl | rfl | rfl
        · simp only [List.getElem?_toArray, List.getElem?_cons_zero, List.getElem?_cons_succ, Option.some.injEq] at ho
          subst ho
          have i6 : act.eval (.tmp (6 : Nat)) = .pointer (some ⟨w.heap.size + 1 + 1, 0, none⟩) := hfr 6 (by decide)
          exact plain_wp (by intro c h; cases h) (fun _ _ => trivial) (by simp only [execOp, i6, evalC, evalF, evalG]; simp [go_sem, m0, m1, m2]) ⟨_, rfl, rfl, RelGF.refl u⟩
        · simp only [List.getElem?_toArray, List.getElem?_cons_zero, List.getElem?_cons_succ, Option.some.injEq] at ho
          subst ho
          have i7 : act.eval (.tmp (7 : Nat)) = .pointer (some ⟨w.heap.size + 1 + 1 + 1, 0, none⟩) := hfr 7 (by decide)
          exact plain_wp (by intro c h; cases h) (fun _ _ => trivial) (by simp only [execOp, i7, evalC, evalF, evalG]; simp [go_sem, l0]) ⟨_, rfl, rfl, RelGF.refl u⟩
        · simp only [List.getElem?_toArray, List.getElem?_cons_zero, List.getElem?_cons_succ, Option.some.injEq] at ho
          subst ho
          have i8 : act.eval (.tmp (8 : Nat)) = .pointer (some ⟨w.heap.size + 1 + 1 + 1 + 1, 0, none⟩) := hfr 8 (by decide)
          exact plain_wp (by intro c h; cases h) (fun _ _ => trivial) (by simp only [execOp, i8, evalC, evalF, evalG]; simp [go_sem, d0, d1, d2]) ⟨_, rfl, rfl, RelGF.refl u⟩
        · simp only [List.getElem?_toArray, List.getElem?_cons_zero, List.getElem?_cons_succ, Option.some.injEq] at ho
          subst ho
          have i6 : act.eval (.tmp (6 : Nat)) = .pointer (some ⟨w.heap.size + 1 + 1, 0, none⟩) := hfr 6 (by decide)
          have i50 : (act.eval (.tmp (50 : Nat))) = mV n n (some ⟨g, 0, none⟩) N c1' := hin ⟨0, .data⟩ (by simp) rfl 50 rfl
          exact skip_wp (by intro c h; cases h) (fun _ _ => trivial) (by simp only [execOp, i6, i50]; simp [go_sem, m0, m1, m2, x0, x1, x2]) ⟨_, rfl, trivial, RelGF.m u⟩
        · simp only [List.getElem?_toArray, List.getElem?_cons_zero, List.getElem?_cons_succ, Option.some.injEq] at ho
          subst ho
          have i7 : act.eval (.tmp (7 : Nat)) = .pointer (some ⟨w.heap.size + 1 + 1 + 1, 0, none⟩) := hfr 7 (by decide)
          have i51 : (act.eval (.tmp (51 : Nat))) = .slice (some ⟨ge, 0, none⟩) n n := hin ⟨1, .data⟩ (by simp) rfl 51 rfl
          exact skip_wp (by intro c h; cases h) (fun _ _ => trivial) (by simp only [execOp, i7, i51]; simp [go_sem, l0, lf0]) ⟨_, rfl, trivial, RelGF.l u⟩
        · simp only [List.getElem?_toArray, List.getElem?_cons_zero, List.getElem?_cons_succ, Option.some.injEq] at ho
          subst ho
          have i8 : act.eval (.tmp (8 : Nat)) = .pointer (some ⟨w.heap.size + 1 + 1 + 1 + 1, 0, none⟩) := hfr 8 (by decide)
          have i52 : (act.eval (.tmp (52 : Nat))) = frV ta := hin ⟨2, .data⟩ (by simp) rfl 52 rfl
          exact skip_wp (by intro c h; cases h) (fun _ _ => trivial) (by simp only [execOp, i8, i52]; simp [go_sem, d0, d1, d2, g0, g1, g2]) ⟨_, rfl, trivial, RelGF.a u⟩
      case fin =>
        intro vs u hu hin hnon
        have a0 := hin 0 50 rfl
        have a1 := hin 1 51 rfl
        have a2 := hin 2 52 rfl
        have a3 := hnon 3 rfl
        have a4 := hnon 4 rfl
        have a5 := hnon 5 rfl
        simp only [putL, Act.put, List.setIfInBounds_toArray, List.set_cons_zero, List.set_cons_succ, Nat.zero_add, Nat.reduceAdd, if_true, reduceIte] at a0 a1 a2 a3 a4 a5 ⊢
        simp only [a0, a1, a2]
        obtain ⟨W9, rfl⟩ : ∃ W9, W9 = u := ⟨_, rfl⟩
        have bg : But (fun b => b = w.heap.size + 1 + 1 ∨ b = w.heap.size + 1 + 1 + 1 ∨ b = w.heap.size + 1 + 1 + 1 + 1) U W9 := hu.1
        have G9 := hu.2 G0
        have hK9 : W9.heap[Dm]? = some (.deferred (some [])) := (bg.block Dm (Array.getElem?_eq_some_iff.1 HKD.out).1 (by show ¬ (Dm = w.heap.size + 1 + 1 ∨ Dm = w.heap.size + 1 + 1 + 1 ∨ Dm = w.heap.size + 1 + 1 + 1 + 1); omega)).trans HKD.out
        have HS9 := hideP (HI.out.s.but bg (fun b hb => by cases hb; show ¬ (g = w.heap.size + 1 + 1 ∨ g = w.heap.size + 1 + 1 + 1 ∨ g = w.heap.size + 1 + 1 + 1 + 1); omega))
        have HE9 := hideP (HI.out.e.but bg (fun b hb => by cases hb; show ¬ (ge = w.heap.size + 1 + 1 ∨ ge = w.heap.size + 1 + 1 + 1 ∨ ge = w.heap.size + 1 + 1 + 1 + 1); omega))
        have B9 : Bl w W9 := bg.bl HI.out.bl (fun i h => by have h' : i = w.heap.size + 1 + 1 ∨ i = w.heap.size + 1 + 1 + 1 ∨ i = w.heap.size + 1 + 1 + 1 + 1 := h; omega)
        clear a0 a1 a2 a3 a4 a5 hin hnon
        go_wp2
        refine ⟨by simp, .inl ⟨_, _, rfl, run_takeDeferred hK9, ?_⟩⟩
        have gk := grownBy_putObj' W9 Dm (.deferred none)
        have gr : ∀ r, some Dm = some r → ∃ o : Obj, W9.heap[r]? = some o ∧ o.isCells = false := fun r e => by cases e; exact ⟨_, hK9, rfl⟩
        have ne1 : mk n n T.s ≠ [] := fun e => by have := congrArg List.length e; rw [mk_len] at this; have h2 : 0 < n * n := Nat.mul_pos n1 n1; simp at this; omega
        have ne2 : linJ n T.e ≠ [] := fun e => by have := congrArg List.length e; rw [linJ_len] at this; simp at this; omega
        have d0 := cell_kept G9.m.c0 gk gr
        have d1 := cell_kept G9.m.c1 gk gr
        have d2 := cell_kept G9.m.c2 gk gr
        have e0 := cell_kept G9.l gk gr
        have q0 := cell_kept G9.a.c0 gk gr
        have q1 := cell_kept G9.a.c1 gk gr
        have q2 := cell_kept G9.a.c2 gk gr
        refine ⟨.tuple #[mV n n (some ⟨g, 0, none⟩) N c1', .slice (some ⟨ge, 0, none⟩) n n, frV ta], ?_, ⟨g, c1', ge, n, by rw [← HTR.out, ← HTA.out], ⟨?_, ?_⟩, ?_⟩⟩
        · simp [results, Tryz.f67, go_sem, d0, d1, d2, e0, q0, q1, q2]
        · rw [← HTR.out]; exact HS9.out.own cellsF_len (by decide) ne1 gk gr
        · rw [← HTR.out]; exact HE9.out.own cellsF_len (by decide) ne2 gk gr
        · exact Below.trans B9 (belowK_b (w := w) (Nat.le_refl _) W9 Dm _ _ (by omega) hK9 rfl rfl)
    
end Go.Proofs.YtljmggemdkfbiaaGreat

/- Contract of root's shares (layer 10). Written by genRo.py. -/
namespace Go.Proofs.YtljmggemdkfbiaaGreat
open Go.RowKit
set_option linter.unusedSimpArgs false
set_option linter.unusedVariables false

set_option maxHeartbeats 1000000 in
theorem rShares0F (v : Value) (xs : List Fr) (by_ : Fr) (w : World) (h : Rw 3 cellsF w v xs) (hl : xs.length ≤ 1000000) :
    Calls Tryz.prog 68 #[v, frV by_] w fun e w' => ∃ u, e = .returned u ∧ Rw 3 cellsF w' u (xs.map fun x => divR x by_) ∧ Fresh w.heap.size u ∧ Bl w w' := by
  have iv := Tryz.mDivF
  obtain ⟨i0, hi, hz0, hz1, hz2⟩ := info_parts Tryz.info_F
  have x0 := FBox.new w by_ 34
  rcases h with ⟨rfl, rfl⟩ | ⟨b, o, cap, rfl, hc, hb, hx⟩
  · go_enter Tryz.func68, Tryz.ntmps68
    go_wp2_with (at_make; refine wpList_make_own _ rfl _ _ 28 rfl w.heap.size 34 i0 (.agg #[.int .i64 0, .int .i64 0, .bool false]) 3 Tryz.underlying28 hi hz0 hz1 .i64 .i64 _ 0 rfl rfl (by simp) (by rw [hz2]; omega) (by unfold maxLen; omega) (by simp) ?_; intro w0 hown0 hgrow0)
    rw [World.size_alloc] at hown0
    have hB0 : Bl w w0 := Below.grown (Below.alloc (Bl.refl w) (Nat.le_refl _) _) hgrow0 (by simp) (fun k e => by cases e)
    go_loopw [5, 13] (fun v i wr => i = .int .i64 0 ∧ wr.ownsRow w.heap.size 34 3 v 0 [] ∧ Bl w wr) (fun _ _ _ => 0)
    case atStart => exact ⟨rfl, hown0, hB0⟩
    case round =>
      obtain ⟨rfl, hown, hB⟩ := hrel
      go_wp2
      go_ret
      exact ⟨_, rfl, Rw.of_own cellsF_len (xs := []) hown, fresh_ownF hown (Nat.le_refl _), hB⟩
  · have HX := hideP hx
    clear hx
    go_enter Tryz.func68, Tryz.ntmps68
    go_wp2_with (at_make; refine wpList_make_own _ rfl _ _ 28 rfl (w.heap.size + 1) 34 i0 (.agg #[.int .i64 0, .int .i64 0, .bool false]) 3 Tryz.underlying28 hi hz0 hz1 .i64 .i64 _ xs.length rfl rfl (by simp) (by rw [hz2]; omega) (by unfold maxLen; omega) (by simp) ?_; intro w0 hown0 hgrow0)
    rw [World.size_alloc] at hown0
    have hB1 : Bl (w.alloc (.cells #[.int .i64 by_.n, .int .i64 by_.d, .bool by_.bad] 34)) w0 := Below.grown (Bl.refl _) hgrow0 (Nat.le_refl _) (fun k e => by cases e)
    have hB0 : Bl w w0 := ((Bl.refl w).alloc _).trans hB1
    go_loopw [5, 13] (fun v i wr => ∃ k : Nat, i = .int .i64 k ∧ k ≤ xs.length ∧ FBox wr w.heap.size by_ ∧ wr.ownsRow (w.heap.size + 1) 34 3 v ((xs.take k).map fun x => divR x by_).length (((xs.take k).map fun x => divR x by_).flatMap cellsF) ∧ Bl w wr) (fun _ i _ => xs.length - (intOf i).toNat)
    case atStart => exact ⟨0, rfl, Nat.zero_le _, x0.later hB1, hown0, hB0⟩
    case round =>
      obtain ⟨k, rfl, hk, bx, hown, hB⟩ := hrel
      by_cases hlt : k < xs.length
      · obtain ⟨x, hx⟩ : ∃ x, xs[k]? = some x := ⟨_, List.getElem?_eq_getElem hlt⟩
        have CX : ∀ j u, (cellsF x)[j]? = some u → wr.cell? ⟨b, o + k * 3 + j, none⟩ = some u := fun j u hu => (bl_cell hB _ _ hb).trans (HX.out k x hx j u hu)
        have y0 : wr.cell? ⟨b, o + k * 3, none⟩ = some (.int .i64 x.n) := CX 0 _ rfl
        have y1 : wr.cell? ⟨b, o + k * 3 + 1, none⟩ = some (.int .i64 x.d) := CX 1 _ rfl
        have y2 : wr.cell? ⟨b, o + k * 3 + 2, none⟩ = some (.bool x.bad) := CX 2 _ rfl
        clear CX
        obtain ⟨c0, c1, c2, f0, f1, f2, lt⟩ := id bx
        have HT := hideP (show (xs.take (k + 1)).map (fun x => divR x by_) = (xs.take k).map (fun x => divR x by_) ++ [divR x by_] by rw [List.take_add_one, hx]; simp)
        have HK := hideP (show ((xs.take k).map fun x => divR x by_).length = k by simp; omega)
        generalize hys : (xs.take k).map (fun x => divR x by_) = ys at *
        clear hys
        go_wp2_with fail
        refine (rdiv_any _ _ _).mono ?_
        rintro e w2 ⟨rfl, h2⟩
        have bl2 : Bl wr w2 := ((Bl.refl _).alloc _).trans h2
        generalize divR x by_ = r at *
        clear y0 y1 y2 c0 c1 c2
        replace hown := own_blF hown bl2
        replace hB := hB.trans bl2
        have bx2 := bx.later bl2
        have hkk := HK.out
        go_wp2_with (at_builtin; refine wpList_append_own _ rfl _ _ 28 rfl (w.heap.size + 1) 34 i0 (.agg #[.int .i64 0, .int .i64 0, .bool false]) 3 24 Tryz.underlying28 hi hz0 hz1 hz2 rfl (by decide) _ _ _ rfl (hown.alloc _) ⟨_, 0, none⟩ 1 1 (cellsF r) rfl rfl (newF_cells _ _ _) (oneF_cells _) (by unfold maxLen; omega) (by omega) (by have := bx2.lt; simp; omega) ?_; intro v' w1 hown' hgrow _)
        have R := ownF_step' (n₀ := w.heap.size + 1) hB (by omega) hown hown' hgrow
        have bx3 := bx2.grown ((Bl.refl _).alloc _) hown hgrow (by omega)
        clear hown hown' hgrow
        go_wp2
        go_roundw
        case rel => exact ⟨k + 1, by simp, hlt, bx3, by rw [HT.out]; exact R.2, R.1⟩
        case measure => simp [intOf]; omega
      · have hk' : k = xs.length := by omega
        subst hk'
        rw [List.take_length] at hown
        have R := hideP (Rw.of_own cellsF_len hown)
        have FR := hideP (fresh_ownF hown (Nat.le_succ _))
        clear hown
        go_wp2
        go_ret
        exact ⟨_, rfl, R.out, FR.out, hB⟩


theorem rSharesF (n : Nat) (p : Option Addr) (cap : Nat) (u : Nat → Fr) (a : Fr) (w : World) (h : Rw 3 cellsF w (.slice p n cap) (linJ n u)) (hl : n ≤ 1000000) :
    Calls Tryz.prog 68 #[.slice p n cap, frV a] w fun e w' => ∃ q c, e = .returned (.slice q n c) ∧ (Rw 3 cellsF w' (.slice q n c) (linJ n (fun i => divR (u i) a)) ∧ Fresh w.heap.size (.slice q n c)) ∧ Bl w w' :=
  (rShares0F _ _ a w h (by rw [linJ_len]; exact hl)).mono fun e w' ⟨v, he, hr, hf, hb⟩ => by
    rw [linJ_map] at hr
    obtain ⟨q, c, rfl, _, _⟩ := hr.cut
    rw [linJ_len] at hr hf he
    exact ⟨q, c, he, ⟨hr, hf⟩, hb⟩
end Go.Proofs.YtljmggemdkfbiaaGreat
