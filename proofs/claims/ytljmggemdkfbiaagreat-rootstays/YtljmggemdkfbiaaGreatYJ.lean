/- As RegR's region_r, with guarded operations whose guards all say yes: what a guard tells is one fact. -/
import Derived.Test.YtljmggemdkfbiaaGreatYE
import Derived.Test.YtljmggemdkfbiaaGreatYI
import Derived.Test.YtljmggemdkfbiaaGreatYH
import Derived.Test.YtljmggemdkfbiaaGreatYD
import Derived.Test.YtljmggemdkfbiaaGreatYA
namespace Go.Proofs.YtljmggemdkfbiaaGreat
open Go.RowKit
set_option linter.unusedSimpArgs false
set_option linter.unusedVariables false
theorem opYJ {α : Type} {l : List α} {k : Nat} {o : α} (h : l.toArray[k]? = some o) : l[k]? = some o := by rwa [List.getElem?_toArray] at h
theorem butRN (u : World) (b : Nat) (v0 v1 v2 v3 : Value) : But (fun i => i = b) u (((((u.setCell ⟨b, 0, none⟩ v0).setCell ⟨b, 1, none⟩ v1).setCell ⟨b, 2, none⟩ v2).setCell ⟨b, 3, none⟩ v3)) := ((((but_cell1 (S := fun i => i = b) rfl _ _ _).trans (but_cell1 (S := fun i => i = b) rfl _ _ _)).trans (but_cell1 (S := fun i => i = b) rfl _ _ _)).trans (but_cell1 (S := fun i => i = b) rfl _ _ _))
theorem linJ_set9N {n i : Nat} (f : Nat → En) (hi : i < n) (y : En) : (linJ n f).set i y = linJ n (fun r => if r = i then y else f r) := by
 refine List.ext_getElem? fun k => ?_
 rw [List.getElem?_set]
 by_cases hk : k < n
 ·rw [linJ_get _ hk, linJ_get _ hk]
  by_cases e : i = k
  ·subst e
   simp [linJ_len, hi]
  ·rw [if_neg e, if_neg (fun h => e h.symm)]
 ·rw [if_neg (by omega)]
  rw [List.getElem?_eq_none (by rw [linJ_len]; omega), List.getElem?_eq_none (by rw [linJ_len]; omega)]
set_option maxRecDepth 100000 in
set_option maxHeartbeats 8000000 in
theorem rChangeN (n N g cap ge ce j0 lo : Nat) (t : StO En) (x : En) (w : World) (hd : Dim n n) (hN : N = n * n) (h : RwZ 4 cellsN w lo (.slice (some ⟨g, 0, none⟩) N cap) (mk n n t.s)) (he : RwZ 4 cellsN w lo (.slice (some ⟨ge, 0, none⟩) n ce) (linJ n t.e)) (hne : g ≠ ge) (hj0 : j0 < n) :
  Calls Tryz.prog 119 #[mV n n (some ⟨g, 0, none⟩) N cap, .slice (some ⟨ge, 0, none⟩) n ce, .int .i64 j0, enV x, enV t.a] w fun e w' => e = .returned (enV (bO kdN t.a x)) ∧ RwZ 4 cellsN w' lo (.slice (some ⟨g, 0, none⟩) N cap) (mk n n (stepO kdN n j0 x t).s) ∧ RwZ 4 cellsN w' lo (.slice (some ⟨ge, 0, none⟩) n ce) (linJ n (stepO kdN n j0 x t).e) ∧ But (fun b => b = g ∨ b = ge) w w' := by
 have fm : Tryz.prog.follows .mixedOrders = true := by kernel_rfl
 have egT := enters_of Tryz.func38 (by kernel_rfl) rfl
 have egA := enters_of Tryz.func202 (by kernel_rfl) rfl
 have egS := enters_of Tryz.func208 (by kernel_rfl) rfl
 have egM := enters_of Tryz.func204 (by kernel_rfl) rfl
 have egD := enters_of Tryz.func203 (by kernel_rfl) rfl
 have egR := enters_of Tryz.func206 (by kernel_rfl) rfl
 have mvD := Tryz.mDivN
 have mvR := Tryz.mRootN
 have hn16 := hd.r2
 have HN := hideP hN
 have HD := hideP hd
 obtain ⟨av, hav⟩ : ∃ y, y = t.a := ⟨_, rfl⟩
 obtain ⟨ww, hww⟩ : ∃ y, y = mulE x x := ⟨_, rfl⟩
 obtain ⟨bb, hbb⟩ : ∃ y, y = addE av ww := ⟨_, rfl⟩
 obtain ⟨q1, hq1⟩ : ∃ y, y = divE av bb := ⟨_, rfl⟩
 obtain ⟨dd, hdd⟩ : ∃ y, y = rootE q1 := ⟨_, rfl⟩
 obtain ⟨ab, hab⟩ : ∃ y, y = mulE av bb := ⟨_, rfl⟩
 obtain ⟨rt, hrt⟩ : ∃ y, y = rootE ab := ⟨_, rfl⟩
 obtain ⟨cc, hcc⟩ : ∃ y, y = divE x rt := ⟨_, rfl⟩
 have HWW := hideP (fun u => by have := emul_any x x u; rw [← hww] at this; exact this)
 have HBB := hideP (fun u => by have := eadd_any av ww u; rw [← hbb] at this; exact this)
 have HQ1 := hideP (fun u => by have := ediv_any av bb u; rw [← hq1] at this; exact this)
 have HD1 := hideP (fun u => by have := eroot_any q1 u; rw [← hdd] at this; exact this)
 have HAB := hideP (fun u => by have := emul_any av bb u; rw [← hab] at this; exact this)
 have HRT := hideP (fun u => by have := eroot_any ab u; rw [← hrt] at this; exact this)
 have HCC := hideP (fun u => by have := ediv_any x rt u; rw [← hcc] at this; exact this)
 have HAV := hideP hav
 have HBO := hideP (show bO kdN t.a x = bb from by rw [hbb, hww, hav]; rfl)
 have HDD := hideP (show dd = dO kdN av x from by rw [hdd, hq1, hbb, hww]; rfl)
 have HCCQ := hideP (show cc = cO kdN av x from by rw [hcc, hrt, hab, hbb, hww]; rfl)
 rw [HBO.out, ← hav]
 clear hav hww hbb hq1 hdd hab hrt hcc
 obtain ⟨W, hW⟩ : ∃ W, W = (((w.alloc (.cells #[.int .i64 n, .int .i64 n, .slice (some ⟨g, 0, none⟩) N cap] 48)).alloc (.cells #[.int .i64 x.v, .int .i64 x.l, .int .i64 x.h, .bool x.bad] 52)).alloc (.cells #[.int .i64 av.v, .int .i64 av.l, .int .i64 av.h, .bool av.bad] 52)).alloc (.cells #[.int .i64 0, .int .i64 0, .int .i64 0, .bool false] 52) := ⟨_, rfl⟩
 have b0 : Bl w W := by rw [hW]; exact ((((Bl.refl _).alloc _).alloc _).alloc _).alloc _
 have m0 : MBox W w.heap.size n n (some ⟨g, 0, none⟩) N cap := by rw [hW]; exact (MBox.new w _ _ _ _ _ _).later ((((Bl.refl _).alloc _).alloc _).alloc _)
 have kw : Box W (w.heap.size + 1) x := by rw [hW]; have := (Box.new (w.alloc (.cells #[.int .i64 n, .int .i64 n, .slice (some ⟨g, 0, none⟩) N cap] 48)) x 52).later (((Bl.refl _).alloc (.cells #[.int .i64 av.v, .int .i64 av.l, .int .i64 av.h, .bool av.bad] 52)).alloc (.cells #[.int .i64 0, .int .i64 0, .int .i64 0, .bool false] 52)); simp only [World.size_alloc] at this; exact this
 have ka : Box W (w.heap.size + 1 + 1) av := by rw [hW]; have := (Box.new ((w.alloc (.cells #[.int .i64 n, .int .i64 n, .slice (some ⟨g, 0, none⟩) N cap] 48)).alloc (.cells #[.int .i64 x.v, .int .i64 x.l, .int .i64 x.h, .bool x.bad] 52)) av 52).later ((Bl.refl _).alloc (.cells #[.int .i64 0, .int .i64 0, .int .i64 0, .bool false] 52)); simp only [World.size_alloc] at this; exact this
 have kz : Box W (w.heap.size + 1 + 1 + 1) zeroE := by rw [hW]; have := (Box.new (((w.alloc (.cells #[.int .i64 n, .int .i64 n, .slice (some ⟨g, 0, none⟩) N cap] 48)).alloc (.cells #[.int .i64 x.v, .int .i64 x.l, .int .i64 x.h, .bool x.bad] 52)).alloc (.cells #[.int .i64 av.v, .int .i64 av.l, .int .i64 av.h, .bool av.bad] 52)) zeroE 52); simp only [World.size_alloc] at this; exact this
 have hWs : W.heap.size = w.heap.size + 1 + 1 + 1 + 1 := by rw [hW]; simp
 have hglt := h.glt
 have hgelt := he.glt
 have H0 := hideP (h.later b0)
 have E0 := hideP (he.later b0)
 have HW := hideP hW
 clear hW h he hd hN
 go_enter Tryz.func119, Tryz.ntmps119
 go_wp2_with fail
 try simp only [World.size_alloc]
 rw [← HW.out]
 refine (wpIn_wide (n := 8)).1 (region_q fm [some 16, some 17, some 18, some 19, some 20, some 21, some 22, some 11, none] (fun _ => false) 8 (by kernel_rfl) (by rfl)
   (fun j v u => match j with | 0 => v = enV av | 1 => v = .iface 52 (enV av) | 2 => v = enV x | 3 => v = .iface 52 (enV x) | 4 => v = enV x | 5 => v = enV ww | 6 => v = enV bb | 7 => ∃ b, v = .pointer (some ⟨b, 0, none⟩) ∧ W.heap.size ≤ b ∧ Box u b zeroE | _ => False)
   (by
    intro j v u u' hb h
    split at h <;> first | exact h | (obtain ⟨b, e, h1, h2⟩ := h; exact ⟨b, e, h1, h2.later hb⟩) | (obtain ⟨q, c, e, h1⟩ := h; exact ⟨q, c, e, h1.later hb⟩)) (fun vs u0 u => ∃ b, vs 7 = .pointer (some ⟨b, 0, none⟩) ∧ W.heap.size ≤ b ∧ Box u b bb ∧ Bl W u) ?step ?still ?store ?fin)
 case step =>
  intro j o t act u ho hdt hpu hsz hu hfr hin
  have hj : j < 9 := (Array.getElem?_eq_some_iff.1 ho).1
  skip
  rcases (by omega : j = 0 ∨ j = 1 ∨ j = 2 ∨ j = 3 ∨ j = 4 ∨ j = 5 ∨ j = 6 ∨ j = 7 ∨ j = 8) with rfl | rfl | rfl | rfl | rfl | rfl | rfl | rfl | rfl
  ·obtain rfl := Option.some.inj (opYJ ho)
   obtain rfl := Option.some.inj hdt
   have i9 : act.eval (.tmp (9 : Nat)) = .pointer (some ⟨w.heap.size + 1 + 1, 0, none⟩) := hfr 9 (by decide)
   obtain ⟨c0, c1, c2, c3, f0, f1, f2, f3, _⟩ := ka.later hu
   exact plain_wp (by intro c h; cases h) (fun _ _ => trivial) (by simp only [execOp, i9, evalC, evalF, evalG]; simp [go_sem, c0, c1, c2, c3]) ⟨_, rfl, rfl, Bl.refl _⟩
  ·obtain rfl := Option.some.inj (opYJ ho)
   obtain rfl := Option.some.inj hdt
   have i16 : (act.eval (.tmp (16 : Nat))) = enV av := hin ⟨0, .data⟩ (by simp) rfl 16 rfl
   exact plain_wp (by intro c h; cases h) (fun _ _ => trivial) (by simp only [execOp, i16, evalC, evalF, evalG]; simp [go_sem]) ⟨_, rfl, rfl, Bl.refl _⟩
  ·obtain rfl := Option.some.inj (opYJ ho)
   obtain rfl := Option.some.inj hdt
   have i8 : act.eval (.tmp (8 : Nat)) = .pointer (some ⟨w.heap.size + 1, 0, none⟩) := hfr 8 (by decide)
   obtain ⟨c0, c1, c2, c3, f0, f1, f2, f3, _⟩ := kw.later hu
   exact plain_wp (by intro c h; cases h) (fun _ _ => trivial) (by simp only [execOp, i8, evalC, evalF, evalG]; simp [go_sem, c0, c1, c2, c3]) ⟨_, rfl, rfl, Bl.refl _⟩
  ·obtain rfl := Option.some.inj (opYJ ho)
   obtain rfl := Option.some.inj hdt
   have i18 : (act.eval (.tmp (18 : Nat))) = enV x := hin ⟨2, .data⟩ (by simp) rfl 18 rfl
   exact plain_wp (by intro c h; cases h) (fun _ _ => trivial) (by simp only [execOp, i18, evalC, evalF, evalG]; simp [go_sem]) ⟨_, rfl, rfl, Bl.refl _⟩
  ·obtain rfl := Option.some.inj (opYJ ho)
   obtain rfl := Option.some.inj hdt
   have i8 : act.eval (.tmp (8 : Nat)) = .pointer (some ⟨w.heap.size + 1, 0, none⟩) := hfr 8 (by decide)
   obtain ⟨c0, c1, c2, c3, f0, f1, f2, f3, _⟩ := kw.later hu
   exact plain_wp (by intro c h; cases h) (fun _ _ => trivial) (by simp only [execOp, i8, evalC, evalF, evalG]; simp [go_sem, c0, c1, c2, c3]) ⟨_, rfl, rfl, Bl.refl _⟩
  ·obtain rfl := Option.some.inj (opYJ ho)
   obtain rfl := Option.some.inj hdt
   have i19 : (act.eval (.tmp (19 : Nat))) = .iface 52 (enV x) := hin ⟨3, .data⟩ (by simp) rfl 19 rfl
   have i20 : (act.eval (.tmp (20 : Nat))) = enV x := hin ⟨4, .data⟩ (by simp) rfl 20 rfl
   have iv := Tryz.mMulN
   refine enter_wp 204 #[enV x, enV x] (by intro c h; cases h) (fun _ _ => trivial) (by simp only [execOp, evalC, evalF, evalG, resolve, i19, i20, List.map_toArray, List.map_cons, List.map_nil]; simp [invoke, iv, egM, Result.andThen, go_sem]) (by intro h; cases h) (callsIn_wide.2 (HWW.out u)) ?_
   rintro e w' ⟨rfl, hb⟩
   exact ⟨_, rfl, _, rfl, rfl, hb⟩
  ·obtain rfl := Option.some.inj (opYJ ho)
   obtain rfl := Option.some.inj hdt
   have i17 : (act.eval (.tmp (17 : Nat))) = .iface 52 (enV av) := hin ⟨1, .data⟩ (by simp) rfl 17 rfl
   have i21 : (act.eval (.tmp (21 : Nat))) = enV ww := hin ⟨5, .data⟩ (by simp) rfl 21 rfl
   have iv := Tryz.mAddN
   refine enter_wp 202 #[enV av, enV ww] (by intro c h; cases h) (fun _ _ => trivial) (by simp only [execOp, evalC, evalF, evalG, resolve, i17, i21, List.map_toArray, List.map_cons, List.map_nil]; simp [invoke, iv, egA, Result.andThen, go_sem]) (by intro h; cases h) (callsIn_wide.2 (HBB.out u)) ?_
   rintro e w' ⟨rfl, hb⟩
   exact ⟨_, rfl, _, rfl, rfl, hb⟩
  ·obtain rfl := Option.some.inj (opYJ ho)
   obtain rfl := Option.some.inj hdt
   exact plain_wp (by intro c h; cases h) (fun _ _ => trivial) (w' := u.alloc (.cells #[.int .i64 0, .int .i64 0, .int .i64 0, .bool false] 52)) (v := .pointer (some ⟨u.heap.size, 0, none⟩)) (by simp only [execOp]; simp [go_sem]) ⟨_, rfl, ⟨u.heap.size, rfl, hu.size, Box.new u zeroE _⟩, (Bl.refl _).alloc _⟩
  ·obtain rfl := Option.some.inj (opYJ ho)
   cases hdt
 case still =>
  intro j o t act u0 u ho hdt hpu
  cases hpu
 case store =>
  intro o act u vs ho hsz hu hfr hin
  obtain rfl := Option.some.inj (opYJ ho)
  obtain ⟨i11, k11⟩ : act.eval (.tmp (11 : Nat)) = vs 7 ∧ (∃ b, (vs 7) = .pointer (some ⟨b, 0, none⟩) ∧ W.heap.size ≤ b ∧ Box u b zeroE) := hin 7 11 rfl rfl
  obtain ⟨i22, k22⟩ : act.eval (.tmp (22 : Nat)) = vs 6 ∧ ((vs 6) = enV bb) := hin 6 22 rfl rfl
  obtain ⟨b, e1, hb, bx⟩ := k11
  rw [e1] at i11
  replace i22 := i22.trans k22
  obtain ⟨c0, c1, c2, c3, f0, f1, f2, f3, ltb⟩ := id bx
  exact skip_wp (by intro c h; cases h) (fun _ _ => trivial) (by simp only [execOp, i11, i22]; simp [go_sem, zeroE, c0, c1, c2, c3, f0, f1, f2, f3]) ⟨rfl, b, e1, hb, bx.fill _, Bl.set4 hu hb _ _ _ _⟩
 case fin =>
  intro vs vb u0 u hu hin hps
  have a0 := hin 0 16 rfl
  have a1 := hin 1 17 rfl
  have a2 := hin 2 18 rfl
  have a3 := hin 3 19 rfl
  have a4 := hin 4 20 rfl
  have a5 := hin 5 21 rfl
  have a6 := hin 6 22 rfl
  have a7 := hin 7 11 rfl
  simp only [putL, Act.put, List.setIfInBounds_toArray, List.set_cons_zero, List.set_cons_succ, Nat.zero_add, Nat.reduceAdd, Nat.reduceBEq, Bool.or_false, Bool.or_true, Bool.false_or, Bool.true_or, Bool.false_eq_true, if_false, if_true, reduceIte, Nat.reduceEqDiff, beq_self_eq_true, Bool.or_self] at a0 a1 a2 a3 a4 a5 a6 a7 ⊢
  rw [if_pos (by decide)] at hps
  simp only [a0, a1, a2, a3, a4, a5, a6]
  obtain ⟨b11, eb, hb11, kb, hbu⟩ := hps
  simp only [eb]
  obtain ⟨w1, rfl⟩ : ∃ w1, w1 = u := ⟨_, rfl⟩
  have b1 : Bl W w1 := hbu
  have lt11 : W.heap.size ≤ b11 := hb11
  clear hin hu a0 a1 a2 a3 a4 a5 a6
  obtain ⟨c0, c1, c2, c3, f0, f1, f2, f3, _⟩ := ka.later b1
  obtain ⟨d0, d1, d2, d3, g0, g1, g2, g3, _⟩ := kb
  have kb : Box w1 b11 bb := ⟨d0, d1, d2, d3, g0, g1, g2, g3, by assumption⟩
  go_wp2_with fail
  refine (HQ1.out _).mono ?_
  rintro e w2 ⟨rfl, h2⟩
  clear c0 c1 c2 c3 f0 f1 f2 f3 d0 d1 d2 d3 g0 g1 g2 g3
  go_wp2_with fail
  refine (HD1.out _).mono ?_
  rintro e w2' ⟨rfl, h2'⟩
  obtain ⟨w3, hw3⟩ : ∃ w3, w3 = w2'.alloc (.cells #[.int .i64 dd.v, .int .i64 dd.l, .int .i64 dd.h, .bool dd.bad] 52) := ⟨_, rfl⟩
  have b2a : Bl w2' w3 := by rw [hw3]; exact (Bl.refl _).alloc _
  have kd : Box w3 w2'.heap.size dd := by rw [hw3]; exact Box.new w2' dd _
  have b13 : Bl w1 w3 := (h2.trans h2').trans b2a
  have b3 : Bl W w3 := b1.trans b13
  obtain ⟨b12, hb12⟩ : ∃ b12, b12 = w2'.heap.size := ⟨_, rfl⟩
  have lt12 : W.heap.size ≤ b12 := by rw [hb12]; have := (b1.trans (h2.trans h2')).size; omega
  have HW3 := hideP hw3
  clear hw3
  go_wp2_with fail
  rw [← HW3.out, ← hb12]
  rw [← hb12] at kd
  clear hb12
  refine (wpIn_wide (n := 8)).1 (region_q fm [some 29, some 30, some 31, some 32, some 33, some 34, some 35, some 36, some 37, some 13, none] (fun _ => false) 10 (by kernel_rfl) (by rfl)
     (fun j v u => match j with | 0 => v = enV x | 1 => v = .iface 52 (enV x) | 2 => v = enV av | 3 => v = .iface 52 (enV av) | 4 => v = enV bb | 5 => v = enV ab | 6 => v = .iface 52 (enV ab) | 7 => v = enV rt | 8 => v = enV cc | 9 => ∃ b, v = .pointer (some ⟨b, 0, none⟩) ∧ w3.heap.size ≤ b ∧ Box u b zeroE | _ => False)
     (by
      intro j v u u' hb h
      split at h <;> first | exact h | (obtain ⟨b, e, h1, h2⟩ := h; exact ⟨b, e, h1, h2.later hb⟩) | (obtain ⟨q, c, e, h1⟩ := h; exact ⟨q, c, e, h1.later hb⟩)) (fun vs u0 u => ∃ b, vs 9 = .pointer (some ⟨b, 0, none⟩) ∧ w3.heap.size ≤ b ∧ Box u b cc ∧ Bl w3 u) ?step ?still ?store ?fin)
  case step =>
   intro j o t act u ho hdt hpu hsz hu hfr hin
   have hj : j < 11 := (Array.getElem?_eq_some_iff.1 ho).1
   skip
   rcases (by omega : j = 0 ∨ j = 1 ∨ j = 2 ∨ j = 3 ∨ j = 4 ∨ j = 5 ∨ j = 6 ∨ j = 7 ∨ j = 8 ∨ j = 9 ∨ j = 10) with rfl | rfl | rfl | rfl | rfl | rfl | rfl | rfl | rfl | rfl | rfl
   ·obtain rfl := Option.some.inj (opYJ ho)
    obtain rfl := Option.some.inj hdt
    have i8 : act.eval (.tmp (8 : Nat)) = .pointer (some ⟨w.heap.size + 1, 0, none⟩) := hfr 8 (by decide)
    obtain ⟨c0, c1, c2, c3, f0, f1, f2, f3, _⟩ := kw.later (b3.trans hu)
    exact plain_wp (by intro c h; cases h) (fun _ _ => trivial) (by simp only [execOp, i8, evalC, evalF, evalG]; simp [go_sem, c0, c1, c2, c3]) ⟨_, rfl, rfl, Bl.refl _⟩
   ·obtain rfl := Option.some.inj (opYJ ho)
    obtain rfl := Option.some.inj hdt
    have i29 : (act.eval (.tmp (29 : Nat))) = enV x := hin ⟨0, .data⟩ (by simp) rfl 29 rfl
    exact plain_wp (by intro c h; cases h) (fun _ _ => trivial) (by simp only [execOp, i29, evalC, evalF, evalG]; simp [go_sem]) ⟨_, rfl, rfl, Bl.refl _⟩
   ·obtain rfl := Option.some.inj (opYJ ho)
    obtain rfl := Option.some.inj hdt
    have i9 : act.eval (.tmp (9 : Nat)) = .pointer (some ⟨w.heap.size + 1 + 1, 0, none⟩) := hfr 9 (by decide)
    obtain ⟨c0, c1, c2, c3, f0, f1, f2, f3, _⟩ := ka.later (b3.trans hu)
    exact plain_wp (by intro c h; cases h) (fun _ _ => trivial) (by simp only [execOp, i9, evalC, evalF, evalG]; simp [go_sem, c0, c1, c2, c3]) ⟨_, rfl, rfl, Bl.refl _⟩
   ·obtain rfl := Option.some.inj (opYJ ho)
    obtain rfl := Option.some.inj hdt
    have i31 : (act.eval (.tmp (31 : Nat))) = enV av := hin ⟨2, .data⟩ (by simp) rfl 31 rfl
    exact plain_wp (by intro c h; cases h) (fun _ _ => trivial) (by simp only [execOp, i31, evalC, evalF, evalG]; simp [go_sem]) ⟨_, rfl, rfl, Bl.refl _⟩
   ·obtain rfl := Option.some.inj (opYJ ho)
    obtain rfl := Option.some.inj hdt
    have i11 : act.eval (.tmp (11 : Nat)) = .pointer (some ⟨b11, 0, none⟩) := hfr 11 (by decide)
    obtain ⟨c0, c1, c2, c3, f0, f1, f2, f3, _⟩ := kb.later (b13.trans hu)
    exact plain_wp (by intro c h; cases h) (fun _ _ => trivial) (by simp only [execOp, i11, evalC, evalF, evalG]; simp [go_sem, c0, c1, c2, c3]) ⟨_, rfl, rfl, Bl.refl _⟩
   ·obtain rfl := Option.some.inj (opYJ ho)
    obtain rfl := Option.some.inj hdt
    have i32 : (act.eval (.tmp (32 : Nat))) = .iface 52 (enV av) := hin ⟨3, .data⟩ (by simp) rfl 32 rfl
    have i33 : (act.eval (.tmp (33 : Nat))) = enV bb := hin ⟨4, .data⟩ (by simp) rfl 33 rfl
    have iv := Tryz.mMulN
    refine enter_wp 204 #[enV av, enV bb] (by intro c h; cases h) (fun _ _ => trivial) (by simp only [execOp, evalC, evalF, evalG, resolve, i32, i33, List.map_toArray, List.map_cons, List.map_nil]; simp [invoke, iv, egM, Result.andThen, go_sem]) (by intro h; cases h) (callsIn_wide.2 (HAB.out u)) ?_
    rintro e w' ⟨rfl, hb⟩
    exact ⟨_, rfl, _, rfl, rfl, hb⟩
   ·obtain rfl := Option.some.inj (opYJ ho)
    obtain rfl := Option.some.inj hdt
    have i34 : (act.eval (.tmp (34 : Nat))) = enV ab := hin ⟨5, .data⟩ (by simp) rfl 34 rfl
    exact plain_wp (by intro c h; cases h) (fun _ _ => trivial) (by simp only [execOp, i34, evalC, evalF, evalG]; simp [go_sem]) ⟨_, rfl, rfl, Bl.refl _⟩
   ·obtain rfl := Option.some.inj (opYJ ho)
    obtain rfl := Option.some.inj hdt
    have i35 : (act.eval (.tmp (35 : Nat))) = .iface 52 (enV ab) := hin ⟨6, .data⟩ (by simp) rfl 35 rfl
    have iv := Tryz.mRootN
    refine enter_wp 206 #[enV ab] (by intro c h; cases h) (fun _ _ => trivial) (by simp only [execOp, evalC, evalF, evalG, resolve, i35, List.map_toArray, List.map_cons, List.map_nil]; simp [invoke, iv, egR, Result.andThen, go_sem]) (by intro h; cases h) (callsIn_wide.2 (HRT.out u)) ?_
    rintro e w' ⟨rfl, hb⟩
    exact ⟨_, rfl, _, rfl, rfl, hb⟩
   ·obtain rfl := Option.some.inj (opYJ ho)
    obtain rfl := Option.some.inj hdt
    have i30 : (act.eval (.tmp (30 : Nat))) = .iface 52 (enV x) := hin ⟨1, .data⟩ (by simp) rfl 30 rfl
    have i36 : (act.eval (.tmp (36 : Nat))) = enV rt := hin ⟨7, .data⟩ (by simp) rfl 36 rfl
    have iv := Tryz.mDivN
    refine enter_wp 203 #[enV x, enV rt] (by intro c h; cases h) (fun _ _ => trivial) (by simp only [execOp, evalC, evalF, evalG, resolve, i30, i36, List.map_toArray, List.map_cons, List.map_nil]; simp [invoke, iv, egD, Result.andThen, go_sem]) (by intro h; cases h) (callsIn_wide.2 (HCC.out u)) ?_
    rintro e w' ⟨rfl, hb⟩
    exact ⟨_, rfl, _, rfl, rfl, hb⟩
   ·obtain rfl := Option.some.inj (opYJ ho)
    obtain rfl := Option.some.inj hdt
    exact plain_wp (by intro c h; cases h) (fun _ _ => trivial) (w' := u.alloc (.cells #[.int .i64 0, .int .i64 0, .int .i64 0, .bool false] 52)) (v := .pointer (some ⟨u.heap.size, 0, none⟩)) (by simp only [execOp]; simp [go_sem]) ⟨_, rfl, ⟨u.heap.size, rfl, hu.size, Box.new u zeroE _⟩, (Bl.refl _).alloc _⟩
   ·obtain rfl := Option.some.inj (opYJ ho)
    cases hdt
  case still =>
   intro j o t act u0 u ho hdt hpu
   cases hpu
  case store =>
   intro o act u vs ho hsz hu hfr hin
   obtain rfl := Option.some.inj (opYJ ho)
   obtain ⟨i13, k13⟩ : act.eval (.tmp (13 : Nat)) = vs 9 ∧ (∃ b, (vs 9) = .pointer (some ⟨b, 0, none⟩) ∧ w3.heap.size ≤ b ∧ Box u b zeroE) := hin 9 13 rfl rfl
   obtain ⟨i37, k37⟩ : act.eval (.tmp (37 : Nat)) = vs 8 ∧ ((vs 8) = enV cc) := hin 8 37 rfl rfl
   obtain ⟨b, e1, hb, bx⟩ := k13
   rw [e1] at i13
   replace i37 := i37.trans k37
   obtain ⟨c0, c1, c2, c3, f0, f1, f2, f3, ltb⟩ := id bx
   exact skip_wp (by intro c h; cases h) (fun _ _ => trivial) (by simp only [execOp, i13, i37]; simp [go_sem, zeroE, c0, c1, c2, c3, f0, f1, f2, f3]) ⟨rfl, b, e1, hb, bx.fill _, Bl.set4 hu hb _ _ _ _⟩
  case fin =>
   intro vs vb u0 u hu hin hps
   have a0 := hin 0 29 rfl
   have a1 := hin 1 30 rfl
   have a2 := hin 2 31 rfl
   have a3 := hin 3 32 rfl
   have a4 := hin 4 33 rfl
   have a5 := hin 5 34 rfl
   have a6 := hin 6 35 rfl
   have a7 := hin 7 36 rfl
   have a8 := hin 8 37 rfl
   have a9 := hin 9 13 rfl
   simp only [putL, Act.put, List.setIfInBounds_toArray, List.set_cons_zero, List.set_cons_succ, Nat.zero_add, Nat.reduceAdd, Nat.reduceBEq, Bool.or_false, Bool.or_true, Bool.false_or, Bool.true_or, Bool.false_eq_true, if_false, if_true, reduceIte, Nat.reduceEqDiff, beq_self_eq_true, Bool.or_self] at a0 a1 a2 a3 a4 a5 a6 a7 a8 a9 ⊢
   rw [if_pos (by decide)] at hps
   simp only [a0, a1, a2, a3, a4, a5, a6, a7, a8]
   obtain ⟨b13', eb, hb13, kc, hbu⟩ := hps
   simp only [eb]
   obtain ⟨w5, rfl⟩ : ∃ w5, w5 = u := ⟨_, rfl⟩
   have b35 : Bl w3 w5 := hbu
   have b5 : Bl W w5 := b3.trans hbu
   have B5 : Bl W w5 := b5
   have b05 : Bl W W := Bl.refl _
   have b15' : Bl w1 w5 := b13.trans hbu
   have lt13 : w3.heap.size ≤ b13' := hb13
   have lt12 := lt12
   clear hin hu a0 a1 a2 a3 a4 a5 a6 a7 a8
   go_wp2_with fail
   go_loopw [14] (fun v wr => ∃ i : Nat, v = .int .i64 i ∧ j0 ≤ i ∧ i ≤ n ∧ RwZ 4 cellsN wr lo (.slice (some ⟨g, 0, none⟩) N cap) (mk n n (partS kdN j0 i x t)) ∧ RwZ 4 cellsN wr lo (.slice (some ⟨ge, 0, none⟩) n ce) (linJ n (partE kdN j0 i x t)) ∧ But (fun b => b = g ∨ b = ge) w5 wr) (fun v _ => n - (intOf v).toNat)
   case atStart => exact ⟨j0, rfl, Nat.le_refl _, by omega, by rw [partS_zero]; exact H0.out.later B5, by rw [partE_zero]; exact E0.out.later B5, But.refl _ _⟩
   case round =>
    obtain ⟨i, rfl, hji, hin, hr, he, bt⟩ := hrel
    have HR := hideP hr
    have HE := hideP he
    clear hr he
    have mb : MBox wr w.heap.size n n (some ⟨g, 0, none⟩) N cap := (m0.later b5).but bt (by have := hglt; have := hgelt; omega)
    by_cases hlt : i < n
    ·obtain ⟨a, q, e1, e2, hq1, hq3, hq5, hq6⟩ := place HD.out hlt hj0
     rw [← HN.out] at hq5
     have HPQ := hideP e2
     clear e1 e2
     obtain ⟨y, hy⟩ : ∃ y, y = t.s i j0 := ⟨_, rfl⟩
     obtain ⟨ei, hei⟩ : ∃ y, y = t.e i := ⟨_, rfl⟩
     obtain ⟨yd, hyd⟩ : ∃ z, z = mulE y dd := ⟨_, rfl⟩
     obtain ⟨ec, hec⟩ : ∃ z, z = mulE ei cc := ⟨_, rfl⟩
     obtain ⟨sn, hsn⟩ : ∃ z, z = subE yd ec := ⟨_, rfl⟩
     obtain ⟨yx, hyx⟩ : ∃ z, z = mulE y x := ⟨_, rfl⟩
     obtain ⟨en, hen⟩ : ∃ z, z = addE ei yx := ⟨_, rfl⟩
     have HSNQ := hideP (show sO kdN t.a x (t.s i j0) (t.e i) = sn from by rw [hsn, hyd, hec, hy, hei, HDD.out, HCCQ.out, HAV.out]; rfl)
     have HENQ := hideP (show kdN.add (t.e i) (kdN.mul (t.s i j0) x) = en from by rw [hen, hyx, hy, hei]; rfl)
     have HEIQ := hideP hei
     have AT := hideP (fun u (hu : Bl wr u) => by have := mAtN n n (some ⟨g, 0, none⟩) N cap (partS kdN j0 i x t) u ⟨HD.out, HN.out, (HR.out.later hu).rw.q⟩ i j0 hlt hj0; rw [partS_at, ← hy] at this; exact this)
     have HYD := hideP (fun u => by have := emul_any y dd u; rw [← hyd] at this; exact this)
     have HEC := hideP (fun u => by have := emul_any ei cc u; rw [← hec] at this; exact this)
     have HSN := hideP (fun u => by have := esub_any yd ec u; rw [← hsn] at this; exact this)
     have HYX := hideP (fun u => by have := emul_any y x u; rw [← hyx] at this; exact this)
     have HEN := hideP (fun u => by have := eadd_any ei yx u; rw [← hen] at this; exact this)
     have HYQ := hideP hy
     clear hy hei hyd hec hsn hyx hen
     obtain ⟨m0', m1', m2', _, _, _, _⟩ := id mb
     go_wp2_with fail
     refine (AT.out _ (Bl.refl _)).mono ?_
     rintro e w7 ⟨rfl, h7⟩
     clear m0' m1' m2'
     obtain ⟨W7, hW7⟩ : ∃ W7, W7 = w7.alloc (.cells #[.int .i64 y.v, .int .i64 y.l, .int .i64 y.h, .bool y.bad] 52) := ⟨_, rfl⟩
     have b7 : Bl w7 W7 := by rw [hW7]; exact (Bl.refl _).alloc _
     have ky7 : Box W7 w7.heap.size y := by rw [hW7]; exact Box.new w7 y _
     have b7r : Bl wr W7 := h7.trans b7
     have hgl7 : g < w7.heap.size := Nat.lt_of_lt_of_le HR.out.glt h7.size
     have bt7 : But (fun b => b = g ∨ b = ge) w5 W7 := bt.trans (But.of_bl b7r)
     have km7 := mb.later b7r
     have kw7 : Box W7 (w.heap.size + 1) x := ((kw.later b5).but bt (by have := hglt; have := hgelt; omega)).later b7r
     have kd7 : Box W7 b12 dd := ((kd.later b35).but bt (by have := hglt; have := hgelt; have := lt12; omega)).later b7r
     have kc7 : Box W7 b13' cc := (kc.but bt (by have := hglt; have := hgelt; have := lt13; have := b3.size; omega)).later b7r
     have HR7 := hideP (HR.out.later b7r)
     have HE7 := hideP (HE.out.later b7r)
     have hgl : g < W7.heap.size := HR7.out.glt
     have hgel : ge < W7.heap.size := HE7.out.glt
     have bws : w.heap.size + 1 + 1 + 1 + 1 ≤ w5.heap.size := by have := (b05.trans b5).size; omega
     have CG := hideP (show ∀ j u, (cellsN y)[j]? = some u → W7.cell? ⟨g, q * 4 + j, none⟩ = some u from fun j u hu => by
      obtain ⟨g', c', e, _, _, _, _, hc⟩ := HR7.out
      cases e
      exact hc q y (by rw [HPQ.out, mk_get _ hlt hj0, partS_at, HYQ.out]) j u hu)
     have FG := hideP (show ∀ j, W7.frozen? ⟨g, j, none⟩ = false from fun j => by
      obtain ⟨g', c', e, _, _, _, hf, _⟩ := HR7.out
      cases e
      exact hf j)
     have CE := hideP (show ∀ j u, (cellsN ei)[j]? = some u → W7.cell? ⟨ge, i * 4 + j, none⟩ = some u from fun j u hu => by
      obtain ⟨g', c', e, _, _, _, _, hc⟩ := HE7.out
      simp only [Value.slice.injEq, Option.some.injEq, Addr.mk.injEq] at e
      obtain ⟨⟨rfl, _⟩, _, rfl⟩ := e
      exact hc i ei (by rw [linJ_get _ hlt, partE_at, HEIQ.out]) j u hu)
     have WA : IntKind.i64.wrap (a : Int) = a := wrapS7 (by omega) (by have := HD.out.lt; have := HN.out; omega)
     have WQ : IntKind.i64.wrap (q : Int) = q := wrapS7 (by omega) (by have := HD.out.lt; have := HN.out; omega)
     have HW7 := hideP hW7
     clear hW7
     go_wp2_with fail
     rw [← HW7.out]
     refine (wpIn_wide (n := 8)).1 (region_q fm [some 49, some 50, some 51, some 52, some 53, some 54, some 55, some 56, some 57, some 58, some 59, some 60, some 61, some 62, some 63, some 64, some 65, some 66, some 67, some 68, some 69, some 70, none] (fun _ => false) 22 (by kernel_rfl) (by rfl)
       (fun j v u => match j with | 0 => v = .pointer (some ⟨w.heap.size, 2, none⟩) | 1 => v = .slice (some ⟨g, 0, none⟩) N cap | 2 => v = .int .i64 i | 3 => v = .pointer (some ⟨w.heap.size, 1, none⟩) | 4 => v = .int .i64 n | 5 => v = .int .i64 a | 6 => v = .int .i64 j0 | 7 => v = .int .i64 q | 8 => v = enV y | 9 => v = .iface 52 (enV y) | 10 => v = enV dd | 11 => v = enV yd | 12 => v = .iface 52 (enV yd) | 13 => v = .slice (some ⟨ge, 0, none⟩) n ce | 14 => v = .int .i64 i | 15 => v = .pointer (some ⟨ge, i * 4, none⟩) | 16 => v = enV ei | 17 => v = .iface 52 (enV ei) | 18 => v = enV cc | 19 => v = enV ec | 20 => v = enV sn | 21 => v = .pointer (some ⟨g, q * 4, none⟩) | _ => False)
       (fun j v u u' _ h => h) (fun vs u0 u => u = u0.setCells g (q * 4) (cellsN sn)) ?step ?still ?store ?fin)
     case step =>
      intro j o t act u ho hdt hpu hsz hu hfr hin
      have hj : j < 23 := (Array.getElem?_eq_some_iff.1 ho).1
      obtain ⟨m0, m1, m2, _, _, _, _⟩ := km7.later hu
      have ee0 : u.cell? ⟨ge, i * 4, none⟩ = some (.int .i64 ei.v) := (bl_cell hu _ _ hgel).trans (CE.out 0 _ rfl)
      have ee1 : u.cell? ⟨ge, i * 4 + 1, none⟩ = some (.int .i64 ei.l) := (bl_cell hu _ _ hgel).trans (CE.out 1 _ rfl)
      have ee2 : u.cell? ⟨ge, i * 4 + 2, none⟩ = some (.int .i64 ei.h) := (bl_cell hu _ _ hgel).trans (CE.out 2 _ rfl)
      have ee3 : u.cell? ⟨ge, i * 4 + 3, none⟩ = some (.bool ei.bad) := (bl_cell hu _ _ hgel).trans (CE.out 3 _ rfl)
      have gg0 : u.cell? ⟨g, q * 4, none⟩ = some (.int .i64 y.v) := (bl_cell hu _ _ hgl).trans (CG.out 0 _ rfl)
      have fg0 : u.frozen? ⟨g, q * 4, none⟩ = false := (bl_froz hu _ _ hgl).trans (FG.out _)
      have gg1 : u.cell? ⟨g, q * 4 + 1, none⟩ = some (.int .i64 y.l) := (bl_cell hu _ _ hgl).trans (CG.out 1 _ rfl)
      have fg1 : u.frozen? ⟨g, q * 4 + 1, none⟩ = false := (bl_froz hu _ _ hgl).trans (FG.out _)
      have gg2 : u.cell? ⟨g, q * 4 + 2, none⟩ = some (.int .i64 y.h) := (bl_cell hu _ _ hgl).trans (CG.out 2 _ rfl)
      have fg2 : u.frozen? ⟨g, q * 4 + 2, none⟩ = false := (bl_froz hu _ _ hgl).trans (FG.out _)
      have gg3 : u.cell? ⟨g, q * 4 + 3, none⟩ = some (.bool y.bad) := (bl_cell hu _ _ hgl).trans (CG.out 3 _ rfl)
      have fg3 : u.frozen? ⟨g, q * 4 + 3, none⟩ = false := (bl_froz hu _ _ hgl).trans (FG.out _)
      rcases (by omega : j = 0 ∨ j = 1 ∨ j = 2 ∨ j = 3 ∨ j = 4 ∨ j = 5 ∨ j = 6 ∨ j = 7 ∨ j = 8 ∨ j = 9 ∨ j = 10 ∨ j = 11 ∨ j = 12 ∨ j = 13 ∨ j = 14 ∨ j = 15 ∨ j = 16 ∨ j = 17 ∨ j = 18 ∨ j = 19 ∨ j = 20 ∨ j = 21 ∨ j = 22) with rfl | rfl | rfl | rfl | rfl | rfl | rfl | rfl | rfl | rfl | rfl | rfl | rfl | rfl | rfl | rfl | rfl | rfl | rfl | rfl | rfl | rfl | rfl
      ·obtain rfl := Option.some.inj (opYJ ho)
       obtain rfl := Option.some.inj hdt
       have i5 : act.eval (.tmp (5 : Nat)) = .pointer (some ⟨w.heap.size, 0, none⟩) := hfr 5 (by decide)
       exact plain_wp (by intro c h; cases h) (fun _ _ => trivial) (by simp only [execOp, i5, evalC, evalF, evalG]; simp [go_sem, m0, m1, m2]) ⟨_, rfl, rfl, Bl.refl _⟩
      ·obtain rfl := Option.some.inj (opYJ ho)
       obtain rfl := Option.some.inj hdt
       have i49 : (act.eval (.tmp (49 : Nat))) = .pointer (some ⟨w.heap.size, 2, none⟩) := hin ⟨0, .data⟩ (by simp) rfl 49 rfl
       exact plain_wp (by intro c h; cases h) (fun _ _ => trivial) (by simp only [execOp, i49, evalC, evalF, evalG]; simp [go_sem, m0, m1, m2]) ⟨_, rfl, rfl, Bl.refl _⟩
      ·obtain rfl := Option.some.inj (opYJ ho)
       obtain rfl := Option.some.inj hdt
       have i14 : act.eval (.tmp (14 : Nat)) = .int .i64 i := hfr 14 (by decide)
       exact plain_wp (by intro c h; cases h) (fun _ _ => trivial) (by simp only [execOp, i14, evalC, evalF, evalG]; simp [go_sem, m0]) ⟨_, rfl, rfl, Bl.refl _⟩
      ·obtain rfl := Option.some.inj (opYJ ho)
       obtain rfl := Option.some.inj hdt
       have i5 : act.eval (.tmp (5 : Nat)) = .pointer (some ⟨w.heap.size, 0, none⟩) := hfr 5 (by decide)
       exact plain_wp (by intro c h; cases h) (fun _ _ => trivial) (by simp only [execOp, i5, evalC, evalF, evalG]; simp [go_sem, m0, m1, m2]) ⟨_, rfl, rfl, Bl.refl _⟩
      ·obtain rfl := Option.some.inj (opYJ ho)
       obtain rfl := Option.some.inj hdt
       have i52 : (act.eval (.tmp (52 : Nat))) = .pointer (some ⟨w.heap.size, 1, none⟩) := hin ⟨3, .data⟩ (by simp) rfl 52 rfl
       exact plain_wp (by intro c h; cases h) (fun _ _ => trivial) (by simp only [execOp, i52, evalC, evalF, evalG]; simp [go_sem, m0, m1, m2]) ⟨_, rfl, rfl, Bl.refl _⟩
      ·obtain rfl := Option.some.inj (opYJ ho)
       obtain rfl := Option.some.inj hdt
       have i51 : (act.eval (.tmp (51 : Nat))) = .int .i64 i := hin ⟨2, .data⟩ (by simp) rfl 51 rfl
       have i53 : (act.eval (.tmp (53 : Nat))) = .int .i64 n := hin ⟨4, .data⟩ (by simp) rfl 53 rfl
       exact plain_wp (by intro c h; cases h) (fun _ _ => trivial) (by simp only [execOp, i51, i53, evalC, evalF, evalG]; simp [go_sem, hq1, WA]) ⟨_, rfl, rfl, Bl.refl _⟩
      ·obtain rfl := Option.some.inj (opYJ ho)
       obtain rfl := Option.some.inj hdt
       have i2 : act.eval (.tmp (2 : Nat)) = .int .i64 j0 := hfr 2 (by decide)
       exact plain_wp (by intro c h; cases h) (fun _ _ => trivial) (by simp only [execOp, i2, evalC, evalF, evalG]; simp [go_sem, m0]) ⟨_, rfl, rfl, Bl.refl _⟩
      ·obtain rfl := Option.some.inj (opYJ ho)
       obtain rfl := Option.some.inj hdt
       have i54 : (act.eval (.tmp (54 : Nat))) = .int .i64 a := hin ⟨5, .data⟩ (by simp) rfl 54 rfl
       have i55 : (act.eval (.tmp (55 : Nat))) = .int .i64 j0 := hin ⟨6, .data⟩ (by simp) rfl 55 rfl
       exact plain_wp (by intro c h; cases h) (fun _ _ => trivial) (by simp only [execOp, i54, i55, evalC, evalF, evalG]; simp [go_sem, hq3, WQ]) ⟨_, rfl, rfl, Bl.refl _⟩
      ·obtain rfl := Option.some.inj (opYJ ho)
       obtain rfl := Option.some.inj hdt
       have i15 : act.eval (.tmp (15 : Nat)) = .pointer (some ⟨w7.heap.size, 0, none⟩) := hfr 15 (by decide)
       obtain ⟨c0, c1, c2, c3, f0, f1, f2, f3, _⟩ := ky7.later hu
       exact plain_wp (by intro c h; cases h) (fun _ _ => trivial) (by simp only [execOp, i15, evalC, evalF, evalG]; simp [go_sem, c0, c1, c2, c3]) ⟨_, rfl, rfl, Bl.refl _⟩
      ·obtain rfl := Option.some.inj (opYJ ho)
       obtain rfl := Option.some.inj hdt
       have i57 : (act.eval (.tmp (57 : Nat))) = enV y := hin ⟨8, .data⟩ (by simp) rfl 57 rfl
       exact plain_wp (by intro c h; cases h) (fun _ _ => trivial) (by simp only [execOp, i57, evalC, evalF, evalG]; simp [go_sem]) ⟨_, rfl, rfl, Bl.refl _⟩
      ·obtain rfl := Option.some.inj (opYJ ho)
       obtain rfl := Option.some.inj hdt
       have i12 : act.eval (.tmp (12 : Nat)) = .pointer (some ⟨b12, 0, none⟩) := hfr 12 (by decide)
       obtain ⟨c0, c1, c2, c3, f0, f1, f2, f3, _⟩ := kd7.later hu
       exact plain_wp (by intro c h; cases h) (fun _ _ => trivial) (by simp only [execOp, i12, evalC, evalF, evalG]; simp [go_sem, c0, c1, c2, c3]) ⟨_, rfl, rfl, Bl.refl _⟩
      ·obtain rfl := Option.some.inj (opYJ ho)
       obtain rfl := Option.some.inj hdt
       have i58 : (act.eval (.tmp (58 : Nat))) = .iface 52 (enV y) := hin ⟨9, .data⟩ (by simp) rfl 58 rfl
       have i59 : (act.eval (.tmp (59 : Nat))) = enV dd := hin ⟨10, .data⟩ (by simp) rfl 59 rfl
       have iv := Tryz.mMulN
       refine enter_wp 204 #[enV y, enV dd] (by intro c h; cases h) (fun _ _ => trivial) (by simp only [execOp, evalC, evalF, evalG, resolve, i58, i59, List.map_toArray, List.map_cons, List.map_nil]; simp [invoke, iv, egM, Result.andThen, go_sem]) (by intro h; cases h) (callsIn_wide.2 (HYD.out u)) ?_
       rintro e w' ⟨rfl, hb⟩
       exact ⟨_, rfl, _, rfl, rfl, hb⟩
      ·obtain rfl := Option.some.inj (opYJ ho)
       obtain rfl := Option.some.inj hdt
       have i60 : (act.eval (.tmp (60 : Nat))) = enV yd := hin ⟨11, .data⟩ (by simp) rfl 60 rfl
       exact plain_wp (by intro c h; cases h) (fun _ _ => trivial) (by simp only [execOp, i60, evalC, evalF, evalG]; simp [go_sem]) ⟨_, rfl, rfl, Bl.refl _⟩
      ·obtain rfl := Option.some.inj (opYJ ho)
       obtain rfl := Option.some.inj hdt
       have i1 : act.eval (.tmp (1 : Nat)) = .slice (some ⟨ge, 0, none⟩) n ce := hfr 1 (by decide)
       exact plain_wp (by intro c h; cases h) (fun _ _ => trivial) (by simp only [execOp, i1, evalC, evalF, evalG]; simp [go_sem, m0]) ⟨_, rfl, rfl, Bl.refl _⟩
      ·obtain rfl := Option.some.inj (opYJ ho)
       obtain rfl := Option.some.inj hdt
       have i14 : act.eval (.tmp (14 : Nat)) = .int .i64 i := hfr 14 (by decide)
       exact plain_wp (by intro c h; cases h) (fun _ _ => trivial) (by simp only [execOp, i14, evalC, evalF, evalG]; simp [go_sem, m0]) ⟨_, rfl, rfl, Bl.refl _⟩
      ·obtain rfl := Option.some.inj (opYJ ho)
       obtain rfl := Option.some.inj hdt
       have i62 : (act.eval (.tmp (62 : Nat))) = .slice (some ⟨ge, 0, none⟩) n ce := hin ⟨13, .data⟩ (by simp) rfl 62 rfl
       have i63 : (act.eval (.tmp (63 : Nat))) = .int .i64 i := hin ⟨14, .data⟩ (by simp) rfl 63 rfl
       exact plain_wp (by intro c h; cases h) (fun _ _ => trivial) (by simp only [execOp, i62, i63, evalC, evalF, evalG]; simp [go_sem, hlt, ee0, ee1, ee2, ee3]) ⟨_, rfl, rfl, Bl.refl _⟩
      ·obtain rfl := Option.some.inj (opYJ ho)
       obtain rfl := Option.some.inj hdt
       have i64 : (act.eval (.tmp (64 : Nat))) = .pointer (some ⟨ge, i * 4, none⟩) := hin ⟨15, .data⟩ (by simp) rfl 64 rfl
       exact plain_wp (by intro c h; cases h) (fun _ _ => trivial) (by simp only [execOp, i64, evalC, evalF, evalG]; simp [go_sem, ee0, ee1, ee2, ee3]) ⟨_, rfl, rfl, Bl.refl _⟩
      ·obtain rfl := Option.some.inj (opYJ ho)
       obtain rfl := Option.some.inj hdt
       have i65 : (act.eval (.tmp (65 : Nat))) = enV ei := hin ⟨16, .data⟩ (by simp) rfl 65 rfl
       exact plain_wp (by intro c h; cases h) (fun _ _ => trivial) (by simp only [execOp, i65, evalC, evalF, evalG]; simp [go_sem]) ⟨_, rfl, rfl, Bl.refl _⟩
      ·obtain rfl := Option.some.inj (opYJ ho)
       obtain rfl := Option.some.inj hdt
       have i13 : act.eval (.tmp (13 : Nat)) = .pointer (some ⟨b13', 0, none⟩) := hfr 13 (by decide)
       obtain ⟨c0, c1, c2, c3, f0, f1, f2, f3, _⟩ := kc7.later hu
       exact plain_wp (by intro c h; cases h) (fun _ _ => trivial) (by simp only [execOp, i13, evalC, evalF, evalG]; simp [go_sem, c0, c1, c2, c3]) ⟨_, rfl, rfl, Bl.refl _⟩
      ·obtain rfl := Option.some.inj (opYJ ho)
       obtain rfl := Option.some.inj hdt
       have i66 : (act.eval (.tmp (66 : Nat))) = .iface 52 (enV ei) := hin ⟨17, .data⟩ (by simp) rfl 66 rfl
       have i67 : (act.eval (.tmp (67 : Nat))) = enV cc := hin ⟨18, .data⟩ (by simp) rfl 67 rfl
       have iv := Tryz.mMulN
       refine enter_wp 204 #[enV ei, enV cc] (by intro c h; cases h) (fun _ _ => trivial) (by simp only [execOp, evalC, evalF, evalG, resolve, i66, i67, List.map_toArray, List.map_cons, List.map_nil]; simp [invoke, iv, egM, Result.andThen, go_sem]) (by intro h; cases h) (callsIn_wide.2 (HEC.out u)) ?_
       rintro e w' ⟨rfl, hb⟩
       exact ⟨_, rfl, _, rfl, rfl, hb⟩
      ·obtain rfl := Option.some.inj (opYJ ho)
       obtain rfl := Option.some.inj hdt
       have i61 : (act.eval (.tmp (61 : Nat))) = .iface 52 (enV yd) := hin ⟨12, .data⟩ (by simp) rfl 61 rfl
       have i68 : (act.eval (.tmp (68 : Nat))) = enV ec := hin ⟨19, .data⟩ (by simp) rfl 68 rfl
       have iv := Tryz.mSubN
       refine enter_wp 208 #[enV yd, enV ec] (by intro c h; cases h) (fun _ _ => trivial) (by simp only [execOp, evalC, evalF, evalG, resolve, i61, i68, List.map_toArray, List.map_cons, List.map_nil]; simp [invoke, iv, egS, Result.andThen, go_sem]) (by intro h; cases h) (callsIn_wide.2 (HSN.out u)) ?_
       rintro e w' ⟨rfl, hb⟩
       exact ⟨_, rfl, _, rfl, rfl, hb⟩
      ·obtain rfl := Option.some.inj (opYJ ho)
       obtain rfl := Option.some.inj hdt
       have i50 : (act.eval (.tmp (50 : Nat))) = .slice (some ⟨g, 0, none⟩) N cap := hin ⟨1, .data⟩ (by simp) rfl 50 rfl
       have i56 : (act.eval (.tmp (56 : Nat))) = .int .i64 q := hin ⟨7, .data⟩ (by simp) rfl 56 rfl
       exact plain_wp (by intro c h; cases h) (fun _ _ => trivial) (by simp only [execOp, i50, i56, evalC, evalF, evalG]; simp [go_sem, hq5, gg0, fg0, gg1, fg1, gg2, fg2, gg3, fg3]) ⟨_, rfl, rfl, Bl.refl _⟩
      ·obtain rfl := Option.some.inj (opYJ ho)
       cases hdt
     case still =>
      intro j o t act u0 u ho hdt hpu
      cases hpu
     case store =>
      intro o act u vs ho hsz hu hfr hin
      obtain rfl := Option.some.inj (opYJ ho)
      obtain ⟨i69, k69⟩ : act.eval (.tmp (69 : Nat)) = vs 20 ∧ ((vs 20) = enV sn) := hin 20 69 rfl rfl
      obtain ⟨i70, k70⟩ : act.eval (.tmp (70 : Nat)) = vs 21 ∧ ((vs 21) = .pointer (some ⟨g, q * 4, none⟩)) := hin 21 70 rfl rfl
      have gg0 : u.cell? ⟨g, q * 4, none⟩ = some (.int .i64 y.v) := (bl_cell hu _ _ hgl).trans (CG.out 0 _ rfl)
      have fg0 : u.frozen? ⟨g, q * 4, none⟩ = false := (bl_froz hu _ _ hgl).trans (FG.out _)
      have gg1 : u.cell? ⟨g, q * 4 + 1, none⟩ = some (.int .i64 y.l) := (bl_cell hu _ _ hgl).trans (CG.out 1 _ rfl)
      have fg1 : u.frozen? ⟨g, q * 4 + 1, none⟩ = false := (bl_froz hu _ _ hgl).trans (FG.out _)
      have gg2 : u.cell? ⟨g, q * 4 + 2, none⟩ = some (.int .i64 y.h) := (bl_cell hu _ _ hgl).trans (CG.out 2 _ rfl)
      have fg2 : u.frozen? ⟨g, q * 4 + 2, none⟩ = false := (bl_froz hu _ _ hgl).trans (FG.out _)
      have gg3 : u.cell? ⟨g, q * 4 + 3, none⟩ = some (.bool y.bad) := (bl_cell hu _ _ hgl).trans (CG.out 3 _ rfl)
      have fg3 : u.frozen? ⟨g, q * 4 + 3, none⟩ = false := (bl_froz hu _ _ hgl).trans (FG.out _)
      replace i70 := i70.trans k70
      replace i69 := i69.trans k69
      exact skip_wp (by intro c h; cases h) (fun _ _ => trivial) (by simp only [execOp, i70, i69]; simp [go_sem, gg0, fg0, gg1, fg1, gg2, fg2, gg3, fg3]; rfl) ⟨rfl, rfl⟩
     case fin =>
      intro vs vb u0 u hu hin hps
      have a0 := hin 0 49 rfl
      have a1 := hin 1 50 rfl
      have a2 := hin 2 51 rfl
      have a3 := hin 3 52 rfl
      have a4 := hin 4 53 rfl
      have a5 := hin 5 54 rfl
      have a6 := hin 6 55 rfl
      have a7 := hin 7 56 rfl
      have a8 := hin 8 57 rfl
      have a9 := hin 9 58 rfl
      have a10 := hin 10 59 rfl
      have a11 := hin 11 60 rfl
      have a12 := hin 12 61 rfl
      have a13 := hin 13 62 rfl
      have a14 := hin 14 63 rfl
      have a15 := hin 15 64 rfl
      have a16 := hin 16 65 rfl
      have a17 := hin 17 66 rfl
      have a18 := hin 18 67 rfl
      have a19 := hin 19 68 rfl
      have a20 := hin 20 69 rfl
      have a21 := hin 21 70 rfl
      simp only [putL, Act.put, List.setIfInBounds_toArray, List.set_cons_zero, List.set_cons_succ, Nat.zero_add, Nat.reduceAdd, Nat.reduceBEq, Bool.or_false, Bool.or_true, Bool.false_or, Bool.true_or, Bool.false_eq_true, if_false, if_true, reduceIte, Nat.reduceEqDiff, beq_self_eq_true, Bool.or_self] at a0 a1 a2 a3 a4 a5 a6 a7 a8 a9 a10 a11 a12 a13 a14 a15 a16 a17 a18 a19 a20 a21 ⊢
      rw [if_pos (by decide)] at hps
      simp only [a0, a1, a2, a3, a4, a5, a6, a7, a8, a9, a10, a11, a12, a13, a14, a15, a16, a17, a18, a19, a20, a21]
      have hq' : q < (mk n n (partS kdN j0 i x t)).length := by rw [mk_len, ← HN.out]; exact hq5
      have PUT := hideP ((HR7.out.later hu).putAt cellsN_len hq' sn)
      rw [HPQ.out, mk_put hlt hj0, ← HPQ.out, ← hps] at PUT
      obtain ⟨w8, hw8⟩ : ∃ w8, w8 = u := ⟨_, rfl⟩
      subst hw8
      have HS8 := hideP (show RwZ 4 cellsN w8 lo (.slice (some ⟨g, 0, none⟩) N cap) (mk n n (partS kdN j0 (i + 1) x t)) from by rw [partS_next kdN hji, HSNQ.out]; exact PUT.out)
      have HE8 := hideP (show RwZ 4 cellsN w8 lo (.slice (some ⟨ge, 0, none⟩) n ce) (linJ n (partE kdN j0 i x t)) from by rw [hps]; exact (HE7.out.later hu).but (S := fun b => b = g) (but_setCells (S := fun b => b = g) (b := g) rfl _ _ _ _ (But.refl _ _)) (fun b hb => by cases hb; exact fun e => hne e.symm))
      have bt78 : But (fun b => b = g) W7 w8 := by rw [hps]; exact (But.of_bl hu).trans (but_setCells (S := fun b => b = g) (b := g) rfl _ _ _ _ (But.refl _ _))
      have bt8 : But (fun b => b = g ∨ b = ge) w5 w8 := bt7.trans (bt78.mono fun _ h => .inl h)
      have kw8 : Box w8 (w.heap.size + 1) x := kw7.but bt78 (by have := hglt; have := bws; omega)
      have ky8 : Box w8 w7.heap.size y := ky7.but bt78 (by have := hgl7; omega)
      have CE8 := hideP (show ∀ j u, (cellsN ei)[j]? = some u → w8.cell? ⟨ge, i * 4 + j, none⟩ = some u from fun j u hu => by
       obtain ⟨g', c', e, _, _, _, _, hc⟩ := HE8.out
       simp only [Value.slice.injEq, Option.some.injEq, Addr.mk.injEq] at e
       obtain ⟨⟨rfl, _⟩, _, rfl⟩ := e
       exact hc i ei (by rw [linJ_get _ hlt, partE_at, HEIQ.out]) j u hu)
      have FE8 := hideP (show ∀ j, w8.frozen? ⟨ge, j, none⟩ = false from fun j => by
       obtain ⟨g', c', e, _, _, _, hf, _⟩ := HE8.out
       simp only [Value.slice.injEq, Option.some.injEq, Addr.mk.injEq] at e
       obtain ⟨⟨rfl, _⟩, _, rfl⟩ := e
       exact hf j)
      have hgel8 : ge < w8.heap.size := HE8.out.glt
      clear hps hu PUT CE FG CG km7 kd7 kc7 kw7 ky7
      go_wp2_with fail
      refine (wpIn_wide (n := 8)).1 (region_q fm [some 71, some 72, some 73, some 74, some 75, some 76, some 77, some 78, some 79, some 80, some 81, some 82, some 83, none] (fun _ => false) 13 (by kernel_rfl) (by rfl)
           (fun j v u => match j with | 0 => v = .slice (some ⟨ge, 0, none⟩) n ce | 1 => v = .int .i64 i | 2 => v = .slice (some ⟨ge, 0, none⟩) n ce | 3 => v = .int .i64 i | 4 => v = .pointer (some ⟨ge, i * 4, none⟩) | 5 => v = enV ei | 6 => v = .iface 52 (enV ei) | 7 => v = enV y | 8 => v = .iface 52 (enV y) | 9 => v = enV x | 10 => v = enV yx | 11 => v = enV en | 12 => v = .pointer (some ⟨ge, i * 4, none⟩) | _ => False)
           (fun j v u u' _ h => h) (fun vs u0 u => u = u0.setCells ge (i * 4) (cellsN en)) ?step ?still ?store ?fin)
      case step =>
       intro j o t act u ho hdt hpu hsz hu hfr hin
       have hj : j < 14 := (Array.getElem?_eq_some_iff.1 ho).1
       have ee0 : u.cell? ⟨ge, i * 4, none⟩ = some (.int .i64 ei.v) := (bl_cell hu _ _ hgel8).trans (CE8.out 0 _ rfl)
       have fe0 : u.frozen? ⟨ge, i * 4, none⟩ = false := (bl_froz hu _ _ hgel8).trans (FE8.out _)
       have ee1 : u.cell? ⟨ge, i * 4 + 1, none⟩ = some (.int .i64 ei.l) := (bl_cell hu _ _ hgel8).trans (CE8.out 1 _ rfl)
       have fe1 : u.frozen? ⟨ge, i * 4 + 1, none⟩ = false := (bl_froz hu _ _ hgel8).trans (FE8.out _)
       have ee2 : u.cell? ⟨ge, i * 4 + 2, none⟩ = some (.int .i64 ei.h) := (bl_cell hu _ _ hgel8).trans (CE8.out 2 _ rfl)
       have fe2 : u.frozen? ⟨ge, i * 4 + 2, none⟩ = false := (bl_froz hu _ _ hgel8).trans (FE8.out _)
       have ee3 : u.cell? ⟨ge, i * 4 + 3, none⟩ = some (.bool ei.bad) := (bl_cell hu _ _ hgel8).trans (CE8.out 3 _ rfl)
       have fe3 : u.frozen? ⟨ge, i * 4 + 3, none⟩ = false := (bl_froz hu _ _ hgel8).trans (FE8.out _)
       rcases (by omega : j = 0 ∨ j = 1 ∨ j = 2 ∨ j = 3 ∨ j = 4 ∨ j = 5 ∨ j = 6 ∨ j = 7 ∨ j = 8 ∨ j = 9 ∨ j = 10 ∨ j = 11 ∨ j = 12 ∨ j = 13) with rfl | rfl | rfl | rfl | rfl | rfl | rfl | rfl | rfl | rfl | rfl | rfl | rfl | rfl
       ·obtain rfl := Option.some.inj (opYJ ho)
        obtain rfl := Option.some.inj hdt
        have i1 : act.eval (.tmp (1 : Nat)) = .slice (some ⟨ge, 0, none⟩) n ce := hfr 1 (by decide)
        exact plain_wp (by intro c h; cases h) (fun _ _ => trivial) (by simp only [execOp, i1, evalC, evalF, evalG]; simp [go_sem, hlt]) ⟨_, rfl, rfl, Bl.refl _⟩
       ·obtain rfl := Option.some.inj (opYJ ho)
        obtain rfl := Option.some.inj hdt
        have i14 : act.eval (.tmp (14 : Nat)) = .int .i64 i := hfr 14 (by decide)
        exact plain_wp (by intro c h; cases h) (fun _ _ => trivial) (by simp only [execOp, i14, evalC, evalF, evalG]; simp [go_sem, hlt]) ⟨_, rfl, rfl, Bl.refl _⟩
       ·obtain rfl := Option.some.inj (opYJ ho)
        obtain rfl := Option.some.inj hdt
        have i1 : act.eval (.tmp (1 : Nat)) = .slice (some ⟨ge, 0, none⟩) n ce := hfr 1 (by decide)
        exact plain_wp (by intro c h; cases h) (fun _ _ => trivial) (by simp only [execOp, i1, evalC, evalF, evalG]; simp [go_sem, hlt]) ⟨_, rfl, rfl, Bl.refl _⟩
       ·obtain rfl := Option.some.inj (opYJ ho)
        obtain rfl := Option.some.inj hdt
        have i14 : act.eval (.tmp (14 : Nat)) = .int .i64 i := hfr 14 (by decide)
        exact plain_wp (by intro c h; cases h) (fun _ _ => trivial) (by simp only [execOp, i14, evalC, evalF, evalG]; simp [go_sem, hlt]) ⟨_, rfl, rfl, Bl.refl _⟩
       ·obtain rfl := Option.some.inj (opYJ ho)
        obtain rfl := Option.some.inj hdt
        have i73 : (act.eval (.tmp (73 : Nat))) = .slice (some ⟨ge, 0, none⟩) n ce := hin ⟨2, .data⟩ (by simp) rfl 73 rfl
        have i74 : (act.eval (.tmp (74 : Nat))) = .int .i64 i := hin ⟨3, .data⟩ (by simp) rfl 74 rfl
        exact plain_wp (by intro c h; cases h) (fun _ _ => trivial) (by simp only [execOp, i73, i74, evalC, evalF, evalG]; simp [go_sem, hlt, ee0, ee1, ee2, ee3]) ⟨_, rfl, rfl, Bl.refl _⟩
       ·obtain rfl := Option.some.inj (opYJ ho)
        obtain rfl := Option.some.inj hdt
        have i75 : (act.eval (.tmp (75 : Nat))) = .pointer (some ⟨ge, i * 4, none⟩) := hin ⟨4, .data⟩ (by simp) rfl 75 rfl
        exact plain_wp (by intro c h; cases h) (fun _ _ => trivial) (by simp only [execOp, i75, evalC, evalF, evalG]; simp [go_sem, ee0, ee1, ee2, ee3]) ⟨_, rfl, rfl, Bl.refl _⟩
       ·obtain rfl := Option.some.inj (opYJ ho)
        obtain rfl := Option.some.inj hdt
        have i76 : (act.eval (.tmp (76 : Nat))) = enV ei := hin ⟨5, .data⟩ (by simp) rfl 76 rfl
        exact plain_wp (by intro c h; cases h) (fun _ _ => trivial) (by simp only [execOp, i76, evalC, evalF, evalG]; simp [go_sem]) ⟨_, rfl, rfl, Bl.refl _⟩
       ·obtain rfl := Option.some.inj (opYJ ho)
        obtain rfl := Option.some.inj hdt
        have i15 : act.eval (.tmp (15 : Nat)) = .pointer (some ⟨w7.heap.size, 0, none⟩) := hfr 15 (by decide)
        obtain ⟨c0, c1, c2, c3, f0, f1, f2, f3, _⟩ := ky8.later hu
        exact plain_wp (by intro c h; cases h) (fun _ _ => trivial) (by simp only [execOp, i15, evalC, evalF, evalG]; simp [go_sem, c0, c1, c2, c3]) ⟨_, rfl, rfl, Bl.refl _⟩
       ·obtain rfl := Option.some.inj (opYJ ho)
        obtain rfl := Option.some.inj hdt
        have i78 : (act.eval (.tmp (78 : Nat))) = enV y := hin ⟨7, .data⟩ (by simp) rfl 78 rfl
        exact plain_wp (by intro c h; cases h) (fun _ _ => trivial) (by simp only [execOp, i78, evalC, evalF, evalG]; simp [go_sem]) ⟨_, rfl, rfl, Bl.refl _⟩
       ·obtain rfl := Option.some.inj (opYJ ho)
        obtain rfl := Option.some.inj hdt
        have i8 : act.eval (.tmp (8 : Nat)) = .pointer (some ⟨w.heap.size + 1, 0, none⟩) := hfr 8 (by decide)
        obtain ⟨c0, c1, c2, c3, f0, f1, f2, f3, _⟩ := kw8.later hu
        exact plain_wp (by intro c h; cases h) (fun _ _ => trivial) (by simp only [execOp, i8, evalC, evalF, evalG]; simp [go_sem, c0, c1, c2, c3]) ⟨_, rfl, rfl, Bl.refl _⟩
       ·obtain rfl := Option.some.inj (opYJ ho)
        obtain rfl := Option.some.inj hdt
        have i79 : (act.eval (.tmp (79 : Nat))) = .iface 52 (enV y) := hin ⟨8, .data⟩ (by simp) rfl 79 rfl
        have i80 : (act.eval (.tmp (80 : Nat))) = enV x := hin ⟨9, .data⟩ (by simp) rfl 80 rfl
        have iv := Tryz.mMulN
        refine enter_wp 204 #[enV y, enV x] (by intro c h; cases h) (fun _ _ => trivial) (by simp only [execOp, evalC, evalF, evalG, resolve, i79, i80, List.map_toArray, List.map_cons, List.map_nil]; simp [invoke, iv, egM, Result.andThen, go_sem]) (by intro h; cases h) (callsIn_wide.2 (HYX.out u)) ?_
        rintro e w' ⟨rfl, hb⟩
        exact ⟨_, rfl, _, rfl, rfl, hb⟩
       ·obtain rfl := Option.some.inj (opYJ ho)
        obtain rfl := Option.some.inj hdt
        have i77 : (act.eval (.tmp (77 : Nat))) = .iface 52 (enV ei) := hin ⟨6, .data⟩ (by simp) rfl 77 rfl
        have i81 : (act.eval (.tmp (81 : Nat))) = enV yx := hin ⟨10, .data⟩ (by simp) rfl 81 rfl
        have iv := Tryz.mAddN
        refine enter_wp 202 #[enV ei, enV yx] (by intro c h; cases h) (fun _ _ => trivial) (by simp only [execOp, evalC, evalF, evalG, resolve, i77, i81, List.map_toArray, List.map_cons, List.map_nil]; simp [invoke, iv, egA, Result.andThen, go_sem]) (by intro h; cases h) (callsIn_wide.2 (HEN.out u)) ?_
        rintro e w' ⟨rfl, hb⟩
        exact ⟨_, rfl, _, rfl, rfl, hb⟩
       ·obtain rfl := Option.some.inj (opYJ ho)
        obtain rfl := Option.some.inj hdt
        have i71 : (act.eval (.tmp (71 : Nat))) = .slice (some ⟨ge, 0, none⟩) n ce := hin ⟨0, .data⟩ (by simp) rfl 71 rfl
        have i72 : (act.eval (.tmp (72 : Nat))) = .int .i64 i := hin ⟨1, .data⟩ (by simp) rfl 72 rfl
        exact plain_wp (by intro c h; cases h) (fun _ _ => trivial) (by simp only [execOp, i71, i72, evalC, evalF, evalG]; simp [go_sem, hlt, ee0, ee1, ee2, ee3]) ⟨_, rfl, rfl, Bl.refl _⟩
       ·obtain rfl := Option.some.inj (opYJ ho)
        cases hdt
      case still =>
       intro j o t act u0 u ho hdt hpu
       cases hpu
      case store =>
       intro o act u vs ho hsz hu hfr hin
       obtain rfl := Option.some.inj (opYJ ho)
       obtain ⟨i82, k82⟩ : act.eval (.tmp (82 : Nat)) = vs 11 ∧ ((vs 11) = enV en) := hin 11 82 rfl rfl
       obtain ⟨i83, k83⟩ : act.eval (.tmp (83 : Nat)) = vs 12 ∧ ((vs 12) = .pointer (some ⟨ge, i * 4, none⟩)) := hin 12 83 rfl rfl
       have ee0 : u.cell? ⟨ge, i * 4, none⟩ = some (.int .i64 ei.v) := (bl_cell hu _ _ hgel8).trans (CE8.out 0 _ rfl)
       have fe0 : u.frozen? ⟨ge, i * 4, none⟩ = false := (bl_froz hu _ _ hgel8).trans (FE8.out _)
       have ee1 : u.cell? ⟨ge, i * 4 + 1, none⟩ = some (.int .i64 ei.l) := (bl_cell hu _ _ hgel8).trans (CE8.out 1 _ rfl)
       have fe1 : u.frozen? ⟨ge, i * 4 + 1, none⟩ = false := (bl_froz hu _ _ hgel8).trans (FE8.out _)
       have ee2 : u.cell? ⟨ge, i * 4 + 2, none⟩ = some (.int .i64 ei.h) := (bl_cell hu _ _ hgel8).trans (CE8.out 2 _ rfl)
       have fe2 : u.frozen? ⟨ge, i * 4 + 2, none⟩ = false := (bl_froz hu _ _ hgel8).trans (FE8.out _)
       have ee3 : u.cell? ⟨ge, i * 4 + 3, none⟩ = some (.bool ei.bad) := (bl_cell hu _ _ hgel8).trans (CE8.out 3 _ rfl)
       have fe3 : u.frozen? ⟨ge, i * 4 + 3, none⟩ = false := (bl_froz hu _ _ hgel8).trans (FE8.out _)
       replace i83 := i83.trans k83
       replace i82 := i82.trans k82
       exact skip_wp (by intro c h; cases h) (fun _ _ => trivial) (by simp only [execOp, i83, i82]; simp [go_sem, ee0, fe0, ee1, fe1, ee2, fe2, ee3, fe3]; rfl) ⟨rfl, rfl⟩
      case fin =>
       intro vs vb u0 u hu hin hps
       have a0 := hin 0 71 rfl
       have a1 := hin 1 72 rfl
       have a2 := hin 2 73 rfl
       have a3 := hin 3 74 rfl
       have a4 := hin 4 75 rfl
       have a5 := hin 5 76 rfl
       have a6 := hin 6 77 rfl
       have a7 := hin 7 78 rfl
       have a8 := hin 8 79 rfl
       have a9 := hin 9 80 rfl
       have a10 := hin 10 81 rfl
       have a11 := hin 11 82 rfl
       have a12 := hin 12 83 rfl
       simp only [putL, Act.put, List.setIfInBounds_toArray, List.set_cons_zero, List.set_cons_succ, Nat.zero_add, Nat.reduceAdd, Nat.reduceBEq, Bool.or_false, Bool.or_true, Bool.false_or, Bool.true_or, Bool.false_eq_true, if_false, if_true, reduceIte, Nat.reduceEqDiff, beq_self_eq_true, Bool.or_self] at a0 a1 a2 a3 a4 a5 a6 a7 a8 a9 a10 a11 a12 ⊢
       rw [if_pos (by decide)] at hps
       simp only [a0, a1, a2, a3, a4, a5, a6, a7, a8, a9, a10, a11, a12]
       have hie : i < (linJ n (partE kdN j0 i x t)).length := by rw [linJ_len]; exact hlt
       have PUT9 := hideP ((HE8.out.later hu).putAt cellsN_len hie en)
       rw [linJ_set9N _ hlt, ← hps] at PUT9
       have HS9 := hideP (show RwZ 4 cellsN u lo (.slice (some ⟨g, 0, none⟩) N cap) (mk n n (partS kdN j0 (i + 1) x t)) from by rw [hps]; exact (HS8.out.later hu).but (S := fun b => b = ge) (but_setCells (S := fun b => b = ge) (b := ge) rfl _ _ _ _ (But.refl _ _)) (fun b hb => by cases hb; exact hne))
       have bt9 : But (fun b => b = g ∨ b = ge) w5 u := by rw [hps]; exact bt8.trans ((But.of_bl hu).trans ((but_setCells (S := fun b => b = ge) (b := ge) rfl _ _ _ _ (But.refl _ _)).mono fun _ h => .inr h))
       clear hps hu
       go_wp2
       go_roundw
       case rel => exact ⟨i + 1, by simp, by omega, by omega, HS9.out, by rw [show partE kdN j0 (i + 1) x t = fun r => if r = i then en else partE kdN j0 i x t r from by funext r; rw [partE_next kdN hji, HENQ.out]]; exact PUT9.out, bt9⟩
       case measure => simp [intOf]; omega
    ·obtain rfl : i = n := by omega
     obtain ⟨m0', m1', m2', _, _, _, _⟩ := id mb
     have kb9 : Box wr b11 bb := (kb.later b15').but bt (by have := hglt; have := hgelt; have := lt11; omega)
     have kz9 : Box wr (w.heap.size + 1 + 1 + 1) zeroE := (kz.later b5).but bt (by have := hglt; have := hgelt; omega)
     obtain ⟨c0, c1, c2, c3, f0, f1, f2, f3, _⟩ := id kb9
     obtain ⟨d0, d1, d2, d3, g0, g1, g2, g3, _⟩ := id kz9
     go_wp2
     simp [bodyPost, results, Tryz.results119, go_sem, c0, c1, c2, c3, f0, f1, f2, f3, d0, d1, d2, d3, g0, g1, g2, g3]
     exact ⟨HR.out.but (butRN _ _ _ _ _ _) (fun b hb => by cases hb; show ¬ g = w.heap.size + 1 + 1 + 1; omega), HE.out.but (butRN _ _ _ _ _ _) (fun b hb => by cases hb; show ¬ ge = w.heap.size + 1 + 1 + 1; omega), ((But.of_bl (b0.trans b5)).trans bt).put (butRN _ _ _ _ _ _) (by omega)⟩
end Go.Proofs.YtljmggemdkfbiaaGreat
namespace Go.Proofs.YtljmggemdkfbiaaGreat
open Go.RowKit Go.Shelf
set_option linter.unusedSimpArgs false
set_option linter.unusedVariables false
attribute [local go_sem] Oper.semAt_some
structure KeptBN (w : World) (B : Nat) (p : Option Addr) (n cap : Nat) (f : Nat → En) : Prop where
 box : w.cell? ⟨B, 0, none⟩ = some (.slice p n cap)
 row : Rw 4 cellsN w (.slice p n cap) (linJ n f)
def zsBN (n : Nat) (f : Nat → En) (t : Nat) : List (Nat × En) := (List.range t).map fun s => (n - 1 - s, f (n - 1 - s))
theorem zsB_nextN (n : Nat) (f : Nat → En) (t : Nat) : zsBN n f (t + 1) = zsBN n f t ++ [(n - 1 - t, f (n - 1 - t))] := by
 unfold zsBN
 rw [List.range_succ, List.map_append]
 rfl
theorem rq_atN {w : World} {p : Option Addr} {n cap : Nat} {f : Nat → En} (h : Rq 4 cellsN w (.slice p n cap) (linJ n f)) {i : Nat} (hi : i < n) : ∃ b o, p = some ⟨b, o, none⟩ ∧ ∀ j v, (cellsN (f i))[j]? = some v → w.cell? ⟨b, o + i * 4 + j, none⟩ = some v := by
 rcases h with ⟨p', cap', e, hx, _⟩ | ⟨b, o, cap', e, hc, hb, hx⟩
 ·have := congrArg List.length hx
  rw [linJ_len] at this
  simp at this
  omega
 ·simp only [Value.slice.injEq] at e
  exact ⟨b, o, e.1, fun j v hj => hx i _ (linJ_get _ hi) j v hj⟩
set_option maxRecDepth 100000 in
set_option maxHeartbeats 2000000 in
theorem iterBN (m l B n : Nat) (p : Option Addr) (cap : Nat) (f : Nat → En) (Kp : World → World → Prop) (hKp : ∀ {A C : World}, KeptBN A B p n cap f → Kp A C → KeptBN C B p n cap f) (J Jx : List (Nat × En) → World → Prop) (W : World) (hn : n ≤ 1000)
  (hY : ∀ pre x W0 W1, J pre W0 → (W1 = W0 ∧ pre = zsBN n f pre.length ∧ x = (n - 1 - pre.length, f (n - 1 - pre.length))) → pre.length < n → YieldAt Fence.wide (m - 1) Tryz.prog l #[.int .i64 x.1, enV x.2] W1 fun e W' =>
   (e = .returned (.bool true) ∧ J (pre ++ [x]) W' ∧ Kp W1 W') ∨ (e = .returned (.bool false) ∧ Jx (pre ++ [x]) W'))
  (hP : KeptBN W B p n cap f) (h0 : J [] W) :
  CallsIn Fence.wide m Tryz.prog 143 #[.func (.yield l) #[] #[], .pointer (some ⟨B, 0, none⟩)] W fun e W' => (∃ v, e = .returned v) ∧
   ((∃ zs : List (Nat × En), zs = zsBN n f n ∧ J zs W') ∨ (∃ pre : List (Nat × En), pre.length ≤ n ∧ Jx pre W')) := by
 have HP := hideP hP
 have c0 := hP.box
 clear hP
 refine callsIn_of_wp Tryz.func143 rfl trivial ?_ rfl
 simp only [Tryz.ntmps143, List.size_toArray, List.length_cons, List.length_nil, Nat.reduceAdd, Nat.reduceSub, Array.replicate_succ, Array.replicate_zero, List.push_toArray, List.append_toArray, List.nil_append, List.cons_append]
 have WN : IntKind.i64.wrap ((n : Int) - 1) = (n : Int) - 1 := wrapS7 (by omega) (by omega)
 gi_wp2
 clear c0
 gi_loopw [3] (fun i wr => ∃ t : Nat, t ≤ n ∧ i = .int .i64 ((n : Int) - 1 - t) ∧ J (zsBN n f t) wr ∧ KeptBN wr B p n cap f) (fun i _ => (intOf i + 1).toNat)
 case atStart => exact ⟨0, Nat.zero_le _, by simp, h0, HP.out⟩
 case round =>
  obtain ⟨t, ht, rfl, hJs, hk⟩ := hrel
  have HK := hideP hk
  clear hk
  by_cases hlt : t < n
  ·obtain ⟨i, hi⟩ : ∃ i : Nat, i = n - 1 - t := ⟨_, rfl⟩
   have e1 : (n : Int) - 1 - t = (i : Int) := by omega
   have e2 : IntKind.i64.wrap ((i : Int) - 1) = (i : Int) - 1 := wrapS7 (by omega) (by omega)
   have hin : i < n := by omega
   have hge : (i : Int) ≥ 0 := by omega
   rw [e1]
   obtain ⟨b, o, rfl, CX⟩ := rq_atN HK.out.row.q hin
   obtain ⟨y, hy⟩ : ∃ y, y = f i := ⟨_, rfl⟩
   rw [← hy] at CX
   have x0 : wr.cell? ⟨b, o + i * 4, none⟩ = some (.int .i64 y.v) := by simpa using CX 0 _ rfl
   have x1 : wr.cell? ⟨b, o + i * 4 + 1, none⟩ = some (.int .i64 y.l) := by simpa using CX 1 _ rfl
   have x2 : wr.cell? ⟨b, o + i * 4 + 2, none⟩ = some (.int .i64 y.h) := by simpa using CX 2 _ rfl
   have x3 : wr.cell? ⟨b, o + i * 4 + 3, none⟩ = some (.bool y.bad) := by simpa using CX 3 _ rfl
   have c0 := HK.out.box
   have hlen : (zsBN n f t).length = t := by simp [zsBN]
   obtain ⟨fn, tmps, assign, body, hyd, hR2⟩ := hY (zsBN n f t) (i, y) wr wr hJs ⟨rfl, by rw [hlen], by rw [hlen, ← hi, hy]⟩ (by omega)
   dsimp only at hyd
   have hR3 : RoundIn Fence.wide (m - 1) Tryz.prog l fn tmps assign body wr fun e W' => ∃ r : Bool, e = .returned (.bool r) ∧ ((r = true ∧ J (zsBN n f (t + 1)) W' ∧ Kp wr W') ∨ (r = false ∧ Jx (zsBN n f (t + 1)) W')) := by
    refine hR2.mono ?_
    rw [zsB_nextN, ← hi, ← hy]
    rintro e W' (⟨rfl, h1, h2⟩ | ⟨rfl, h1⟩)
    ·exact ⟨true, rfl, .inl ⟨rfl, h1, h2⟩⟩
    ·exact ⟨false, rfl, .inr ⟨rfl, h1⟩⟩
   have HI := hideP hi
   clear CX hR2 hy e1 hi
   gi_wp2_with fail
   refine ⟨fun h => (by cases h), ?_⟩
   refine hR3.mono ?_
   rintro e W3 ⟨r, rfl, hr⟩
   clear c0 x0 x1 x2 x3 hR3 hyd
   rcases hr with ⟨rfl, hJ3, hk3⟩ | ⟨rfl, hJx3⟩
   ·have HK3 := hideP (hKp HK.out hk3)
    gi_wp2
    go_roundw
    case rel => exact ⟨t + 1, by omega, by first | rfl | (congr 1; have := HI.out; omega), hJ3, HK3.out⟩
    case measure => simp [intOf] <;> omega
   ·gi_wp2
    refine bodyPost_ret (results_none rfl _ _ _) rfl ?_
    exact ⟨⟨_, rfl⟩, .inr ⟨_, by simp [zsBN] <;> omega, hJx3⟩⟩
  ·obtain rfl : t = n := by omega
   have e1 : (t : Int) - 1 - t = -1 := by omega
   rw [e1]
   have HJ := hideP hJs
   clear hJs
   gi_wp2
   go_end0
   exact ⟨⟨_, rfl⟩, .inl ⟨_, rfl, HJ.out⟩⟩
theorem seqBN (m B n : Nat) (p : Option Addr) (cap : Nat) (f : Nat → En) (Kp : World → World → Prop) (hKp : ∀ {A C : World}, KeptBN A B p n cap f → Kp A C → KeptBN C B p n cap f) (w : World) (hn : n ≤ 1000) (hP : ∀ W, Bl w W → KeptBN W B p n cap f) :
  SeqV Fence.wide m Tryz.prog 143 #[.pointer (some ⟨B, 0, none⟩)] (fun x : Nat × En => #[.int .i64 x.1, enV x.2]) (fun x W0 W1 => W1 = W0 ∧ x.1 < n) Kp (fun zs => zs = zsBN n f n) (fun pre => pre.length ≤ n) n w :=
 fun l J Jx W hW hJ _ hY h0 => iterBN m l B n p cap f Kp hKp J Jx W hn (fun pre x W0 W1 h1 h2 h3 => hY pre x W0 W1 h1 ⟨h2.1, by rw [h2.2.2]; show n - 1 - pre.length < n; omega⟩ h3) (hP W hW) h0
theorem backwardN (n : Nat) (p : Option Addr) (cap : Nat) (f : Nat → En) (w : World) (h : Rw 4 cellsN w (.slice p n cap) (linJ n f)) :
  Calls Tryz.prog 118 #[.slice p n cap] w fun e w' => e = .returned (.func (.func 143) #[] #[.pointer (some ⟨w.heap.size, 0, none⟩)]) ∧ KeptBN w' w.heap.size p n cap f ∧ w' = w.alloc (.cells #[.slice p n cap] 46) := by
 go_enter Tryz.func118, Tryz.ntmps118
 go_wp2
 go_ret
 exact ⟨rfl, ⟨by simp [go_sem], h.later ((Bl.refl _).alloc _)⟩, rfl⟩
end Go.Proofs.YtljmggemdkfbiaaGreat
namespace Go.Proofs.YtljmggemdkfbiaaGreat
open Go.RowKit
set_option linter.unusedSimpArgs false
set_option linter.unusedVariables false
theorem but4N (u : World) (b : Nat) (v0 v1 v2 v3 : Value) : But (fun i => i = b) u ((((u.setCell ⟨b, 0, none⟩ v0).setCell ⟨b, 1, none⟩ v1).setCell ⟨b, 2, none⟩ v2).setCell ⟨b, 3, none⟩ v3) := (((but_cell1 (S := fun i => i = b) rfl _ _ _).trans (but_cell1 (S := fun i => i = b) rfl _ _ _)).trans (but_cell1 (S := fun i => i = b) rfl _ _ _)).trans (but_cell1 (S := fun i => i = b) rfl _ _ _)
theorem heap4N {g l : Nat} (u : World) (h : l ≠ g) (v0 v1 v2 v3 : Value) : ((((u.setCell ⟨g, 0, none⟩ v0).setCell ⟨g, 1, none⟩ v1).setCell ⟨g, 2, none⟩ v2).setCell ⟨g, 3, none⟩ v3).heap[l]? = u.heap[l]? := by
 rw [heap1 _ h, heap1 _ h, heap1 _ h, heap1 _ h]
theorem noB_newSN (u : World) (t : TypeId) : NoB (u.alloc (.cells #[.slice none 0 0, .int .i64 0, .int .i64 0, .slice none 0 0] t)) u.heap.size := by
 intro o x
 rcases o with _ | _ | _ | _ | o <;> simp [go_sem]
theorem mx_ltN {u : World} {R C : Nat} {p : Option Addr} {n cap : Nat} {f : Nat → Nat → En} (h : Mx 4 cellsN u R C p n cap f) : ∀ g, (Value.slice p n cap).ownBlock = some g → g < u.heap.size := by
 obtain ⟨b', o, rfl, _, hlt, hcell⟩ := h.cells
 intro g hg
 cases hg
 exact hlt
theorem noB_rwN {u : World} {p : Option Addr} {n cap b : Nat} {x : Nat → En} (h : Rw 4 cellsN u (.slice p n cap) (linJ n x)) (h1 : 1 ≤ n) (nb : NoB u b) : ∀ g, (Value.slice p n cap).ownBlock = some g → g ≠ b := by
 rcases h with ⟨_, e⟩ | ⟨g, o, c, e, _, hlt, hx⟩
 ·have := congrArg List.length e
  rw [linJ_len] at this
  simp at this
  omega
 ·rintro g' hg rfl
  obtain ⟨j, y, hj⟩ := boolN (x 0)
  have := hx 0 _ (linJ_get x h1) j _ hj
  simp only [Value.slice.injEq] at e
  obtain ⟨rfl, _⟩ := e
  cases hg
  exact nb _ _ this
theorem whole_linN (p : Option Addr) (n cap : Nat) (h : Nat → Int) (w : World) (hr : Rq 1 cI w (.slice p n cap) (linJ n h)) (hl : n ≤ 1000000) :
  Calls Tryz.prog 35 #[.slice p n cap] w fun e w' => ∃ q c, e = .returned (.slice q n c) ∧ Rw 4 cellsN w' (.slice q n c) (linJ n fun i => wholeN (h i)) ∧ Bl w w' :=
 (vWholeN _ _ w hr (by rw [linJ_len]; exact hl)).mono fun e w' ⟨u, he, hr, hb⟩ => by
  rw [linJ_map] at hr
  obtain ⟨q, c, rfl, _, _⟩ := hr.cut
  rw [linJ_len] at hr he
  exact ⟨q, c, he, hr, hb⟩
def updN (n N : Nat) (x : Nat → En) (P : Nat → Nat → En) (e a : En) : Upd (Option Addr × Nat × Option Addr × Nat) where
 v0 D := sJ D.1 n D.2.1 n n D.2.2.1 N D.2.2.2
 v1 _ := newsVN e a
 v2 _ := .bool true
 dat D u := Rw 4 cellsN u (.slice D.1 n D.2.1) (linJ n x) ∧ Mx 4 cellsN u n n D.2.2.1 N D.2.2.2 P
 off D b := (∀ g, (Value.slice D.1 n D.2.1).ownBlock = some g → g ≠ b) ∧ ∀ g, (Value.slice D.2.2.1 N D.2.2.2).ownBlock = some g → g ≠ b
 za u b := SBox u b none 0 0 0 0 none 0 0
 zb u b := NBoxN u b zeroE zeroE
 sa D u b := SBox u b D.1 n D.2.1 n n D.2.2.1 N D.2.2.2
 sb _ u b := NBoxN u b e a
theorem s_not_nN {u : World} {b : Nat} {px : Option Addr} {nx cx : Nat} {r c : Int} {p : Option Addr} {m cap : Nat} {x y : En} (h : SBox u b px nx cx r c p m cap) (k : NBoxN u b x y) : False := by
 have := h.c0.symm.trans k.c0
 simp at this
theorem updN_ok (n N : Nat) (x : Nat → En) (P : Nat → Nat → En) (e a : En) : UpdOk (updN n N x P e a) where
 dat_bl D u u' h k := ⟨h.1.later k, Mx.later h.2 k⟩
 dat_off D u b h hb := ⟨fun g hg => by have := h.1.lt g hg; omega, fun g hg => by have := mx_ltN h.2 g hg; omega⟩
 za_heap u u' b h _ e hs := SBox.heap h e hs
 zb_heap u u' b h _ e hs := NBoxN.heap h e hs
 sa_heap D u u' b h _ e hs := SBox.heap h e hs
 sb_heap D u u' b h _ e hs := NBoxN.heap h e hs
 ne0 u b h k := s_not_nN h k
 ne1 D u b h k := s_not_nN h k
 ne2 D u b h k := s_not_nN h k
theorem butNN (u : World) (b : Nat) (x y : En) : But (fun i => i = b) u ((((((((u.setCell ⟨b, 0, none⟩ (.int .i64 x.v)).setCell ⟨b, 1, none⟩ (.int .i64 x.l)).setCell ⟨b, 2, none⟩ (.int .i64 x.h)).setCell ⟨b, 3, none⟩ (.bool x.bad)).setCell ⟨b, 4, none⟩ (.int .i64 y.v)).setCell ⟨b, 5, none⟩ (.int .i64 y.l)).setCell ⟨b, 6, none⟩ (.int .i64 y.h)).setCell ⟨b, 7, none⟩ (.bool y.bad)) := (((((((but_cell1 (S := fun i => i = b) rfl _ _ _).trans (but_cell1 (S := fun i => i = b) rfl _ _ _)).trans (but_cell1 (S := fun i => i = b) rfl _ _ _)).trans (but_cell1 (S := fun i => i = b) rfl _ _ _)).trans (but_cell1 (S := fun i => i = b) rfl _ _ _)).trans (but_cell1 (S := fun i => i = b) rfl _ _ _)).trans (but_cell1 (S := fun i => i = b) rfl _ _ _)).trans (but_cell1 (S := fun i => i = b) rfl _ _ _)
theorem heapNN {l b : Nat} (u : World) (h : l ≠ b) (x y : En) : ((((((((u.setCell ⟨b, 0, none⟩ (.int .i64 x.v)).setCell ⟨b, 1, none⟩ (.int .i64 x.l)).setCell ⟨b, 2, none⟩ (.int .i64 x.h)).setCell ⟨b, 3, none⟩ (.bool x.bad)).setCell ⟨b, 4, none⟩ (.int .i64 y.v)).setCell ⟨b, 5, none⟩ (.int .i64 y.l)).setCell ⟨b, 6, none⟩ (.int .i64 y.h)).setCell ⟨b, 7, none⟩ (.bool y.bad)).heap[l]? = u.heap[l]? := by
 rw [heap1 _ h, heap1 _ h, heap1 _ h, heap1 _ h, heap1 _ h, heap1 _ h, heap1 _ h, heap1 _ h]
theorem blNN {w u : World} (b : Nat) (h : Bl w u) (hb : w.heap.size ≤ b) (x y : En) : Bl w ((((((((u.setCell ⟨b, 0, none⟩ (.int .i64 x.v)).setCell ⟨b, 1, none⟩ (.int .i64 x.l)).setCell ⟨b, 2, none⟩ (.int .i64 x.h)).setCell ⟨b, 3, none⟩ (.bool x.bad)).setCell ⟨b, 4, none⟩ (.int .i64 y.v)).setCell ⟨b, 5, none⟩ (.int .i64 y.l)).setCell ⟨b, 6, none⟩ (.int .i64 y.h)).setCell ⟨b, 7, none⟩ (.bool y.bad)) := Bl.set (Bl.set (Bl.set (Bl.set (Bl.set (Bl.set (Bl.set (Bl.set (h) hb _) hb _) hb _) hb _) hb _) hb _) hb _) hb _
end Go.Proofs.YtljmggemdkfbiaaGreat
namespace Go.Proofs.YtljmggemdkfbiaaGreat
open Go.RowKit Go.Shelf
set_option linter.unusedSimpArgs false
set_option linter.unusedVariables false
attribute [local go_sem] Oper.semAt_some
def RelON (ge lo n : Nat) (xs : List En) (x y : World) : Prop := Bl x y ∨ (But (fun b => b = ge) x y ∧ RwZ 4 cellsN y lo (.slice (some ⟨ge, 0, none⟩) n n) xs)
theorem RelON.but {ge lo n : Nat} {xs : List En} {x y : World} (h : RelON ge lo n xs x y) : But (fun b => b = ge) x y := by
 rcases h with h | h
 ·exact But.of_bl h
 ·exact h.1
theorem RelON.trans {ge lo n : Nat} {xs : List En} {x y z : World} (h : RelON ge lo n xs x y) (k : RelON ge lo n xs y z) : RelON ge lo n xs x z := by
 rcases k with k | k
 ·rcases h with h | h
  ·exact .inl (h.trans k)
  ·exact .inr ⟨h.1.trans (But.of_bl k), h.2.later k⟩
 ·exact .inr ⟨h.but.trans k.1, k.2⟩
theorem RelON.rwz {ge lo n : Nat} {xs : List En} {x y : World} (h : RelON ge lo n xs x y) (k : RwZ 4 cellsN x lo (.slice (some ⟨ge, 0, none⟩) n n) xs) : RwZ 4 cellsN y lo (.slice (some ⟨ge, 0, none⟩) n n) xs := by
 rcases h with h | h
 ·exact k.later h
 ·exact h.2
theorem rq_butN {α : Type} {s : Nat} {c : α → List Value} {w w' : World} {v : Value} {xs : List α} {S : Nat → Prop} (h : Rq s c w v xs) (k : But S w w') (hs : ∀ g, v.ownBlock = some g → ¬ S g) : Rq s c w' v xs := by
 rcases h with h | ⟨b, o, cap, rfl, hc, hb, hx⟩
 ·exact .inl h
 ·exact .inr ⟨b, o, cap, rfl, hc, Nat.lt_of_lt_of_le hb k.size, fun j x hj i u hu => (k.cell _ _ hb (hs b rfl)).trans (hx j x hj i u hu)⟩
theorem RwZ.againN {w : World} {lo g n cap : Nat} {xs : List En} (h : RwZ 4 cellsN w lo (.slice (some ⟨g, 0, none⟩) n cap) xs) :
  (∀ j, j < (xs.flatMap cellsN).length → (w.cell? ⟨g, 0 + j, none⟩).isSome = true) ∧ (∀ j, j < (xs.flatMap cellsN).length → w.frozen? ⟨g, 0 + j, none⟩ = false) := by
 obtain ⟨b, cap', e, hc, hlo, hb, hf, hx⟩ := h
 simp only [Value.slice.injEq, Option.some.injEq, Addr.mk.injEq] at e
 obtain ⟨⟨rfl, _⟩, _, _⟩ := e
 refine ⟨fun j hj => ?_, fun j _ => hf _⟩
 rw [flat_len cellsN_len] at hj
 have h1 : j / 4 < xs.length := (Nat.div_lt_iff_lt_mul (by decide)).2 hj
 have h2 := hx (j / 4) _ (List.getElem?_eq_getElem h1) (j % 4) _ (List.getElem?_eq_getElem (by rw [cellsN_len]; exact Nat.mod_lt _ (by decide)))
 rw [show 0 + j = j / 4 * 4 + j % 4 from by rw [Nat.zero_add, Nat.mul_comm]; exact (Nat.div_add_mod j 4).symm, h2]
 rfl
theorem RwZ.copy2N {w : World} {lo g n cap : Nat} {xs : List En} (h : RwZ 4 cellsN w lo (.slice (some ⟨g, 0, none⟩) n cap) xs) : RwZ 4 cellsN (w.setCells g 0 (xs.flatMap cellsN)) lo (.slice (some ⟨g, 0, none⟩) n cap) xs := by
 have H := RwZ.againN h
 obtain ⟨b, cap', e, hc, hlo, hb, hf, hx⟩ := h
 simp only [Value.slice.injEq, Option.some.injEq, Addr.mk.injEq] at e
 obtain ⟨⟨rfl, _⟩, rfl, rfl⟩ := e
 refine ⟨g, cap, rfl, hc, hlo, by rw [setCells_size]; exact hb, fun o => ?_, fun j x hj k u hu => ?_⟩
 ·rw [World.frozen?_setCells]
  exact hf o
 ·have hk : k < 4 := by have := (List.getElem?_eq_some_iff.1 hu).1; rwa [cellsN_len] at this
  have hjl := (List.getElem?_eq_some_iff.1 hj).1
  refine cell_set_some (o := 0) (fun j hj => by have := H.1 j hj; exact this) (Nat.zero_le _) (by rw [Nat.zero_add, flat_len cellsN_len]; have : (j + 1) * 4 ≤ xs.length * 4 := Nat.mul_le_mul_right _ hjl; omega) ?_
  rw [Nat.sub_zero, flat_get cellsN_len xs j k x hj hk]
  exact hu
theorem but_putObj9N {S : Nat → Prop} (W : World) {l : Nat} {o' : Obj} (h : S l) : But S W (W.putObj l o') := ⟨rfl, rfl, rfl, by simp [World.putObj], fun i _ hs => World.putObj_heap_other (by rintro rfl; exact hs h)⟩
theorem cell_lt9N {w : World} {b o : Nat} {v : Value} (h : w.cell? ⟨b, o, none⟩ = some v) : b < w.heap.size := by
 rcases Nat.lt_or_ge b w.heap.size with h1 | h1
 ·exact h1
 ·unfold World.cell? at h
  rw [show w.heap[b]? = none from Array.getElem?_eq_none h1] at h
  cases h
theorem box_blk9N {w w' : World} {b : Nat} {x : En} (h : Box w b x) (e : w'.heap[b]? = w.heap[b]?) (hs : w.heap.size ≤ w'.heap.size) : Box w' b x :=
 ⟨(World.cell?_of_block (a := ⟨b, 0, none⟩) e).trans h.c0, (World.cell?_of_block (a := ⟨b, 1, none⟩) e).trans h.c1, (World.cell?_of_block (a := ⟨b, 2, none⟩) e).trans h.c2, (World.cell?_of_block (a := ⟨b, 3, none⟩) e).trans h.c3, (World.frozen?_of_block (a := ⟨b, 0, none⟩) e).trans h.f0, (World.frozen?_of_block (a := ⟨b, 1, none⟩) e).trans h.f1, (World.frozen?_of_block (a := ⟨b, 2, none⟩) e).trans h.f2, (World.frozen?_of_block (a := ⟨b, 3, none⟩) e).trans h.f3, Nat.lt_of_lt_of_le h.lt hs⟩
theorem keptB_butN {A C : World} {B : Nat} {p : Option Addr} {n cap : Nat} {f : Nat → En} {S : Nat → Prop} (h : KeptBN A B p n cap f) (k : But S A C) (hB : ¬ S B) (hp : ∀ b, (Value.slice p n cap).ownBlock = some b → ¬ S b) : KeptBN C B p n cap f :=
 ⟨(k.cell _ _ (cell_lt9N h.box) hB).trans h.box, h.row.but k hp⟩
theorem own_ne9N {X : World} {row : Option Nat} {b o : Nat} {v : Value} (hc : X.cell? ⟨b, o, none⟩ = some v) (hr : ∀ r, row = some r → ∃ o : Obj, X.heap[r]? = some o ∧ o.isCells = false) : row ≠ some b := by
 intro e
 obtain ⟨ob, ho, hoc⟩ := hr b e
 unfold World.cell? at hc
 simp only [ho] at hc
 cases ob <;> simp_all [Obj.isCells]
theorem own_blk9N {X Y : World} {row : Option Nat} {b o : Nat} {v : Value} (hc : X.cell? ⟨b, o, none⟩ = some v) (hg : X.grownBy Y row) (hr : ∀ r, row = some r → ∃ o : Obj, X.heap[r]? = some o ∧ o.isCells = false) : Y.heap[b]? = X.heap[b]? :=
 hg.block b (cell_lt9N hc) (fun e => own_ne9N hc hr e.symm)
structure StIN (w : World) (n N g c1 ge H : Nat) (t : StO En) (U : World) : Prop where
 s : RwZ 4 cellsN U w.heap.size (.slice (some ⟨g, 0, none⟩) N c1) (mk n n t.s)
 e : RwZ 4 cellsN U w.heap.size (.slice (some ⟨ge, 0, none⟩) n n) (linJ n t.e)
 a : Box U (w.heap.size + 1 + 1 + 1 + 1) t.a
 m : MBox U (w.heap.size + 1 + 1) n n (some ⟨g, 0, none⟩) N c1
 l : U.cell? ⟨w.heap.size + 1 + 1 + 1, 0, none⟩ = some (.slice (some ⟨ge, 0, none⟩) n n)
 lf : U.frozen? ⟨w.heap.size + 1 + 1 + 1, 0, none⟩ = false
 bl : Bl w U
 sz : H ≤ U.heap.size
theorem sti_ownN {w : World} {n N g c1 ge H : Nat} {t : StO En} {X Y : World} {row : Option Nat} (h : StIN w n N g c1 ge H t X) (n1 : 1 ≤ n) (hN : N = n * n) (hw : w.heap.size ≤ H) (hg : X.grownBy Y row) (hr : ∀ r, row = some r → H ≤ r ∧ ∃ o : Obj, X.heap[r]? = some o ∧ o.isCells = false) : StIN w n N g c1 ge H t Y := by
 have hr2 : ∀ r, row = some r → ∃ o : Obj, X.heap[r]? = some o ∧ o.isCells = false := fun r e => (hr r e).2
 have ne1 : mk n n t.s ≠ [] := fun e => by have := congrArg List.length e; rw [mk_len] at this; have h2 : 0 < n * n := Nat.mul_pos n1 n1; simp at this; omega
 have ne2 : linJ n t.e ≠ [] := fun e => by have := congrArg List.length e; rw [linJ_len] at this; simp at this; omega
 have e8 := own_blk9N h.a.c0 hg hr2
 have e6 := own_blk9N h.m.c0 hg hr2
 have e7 := own_blk9N h.l hg hr2
 exact ⟨h.s.own cellsN_len (by decide) ne1 hg hr2, h.e.own cellsN_len (by decide) ne2 hg hr2, box_blk9N h.a e8 hg.size, mbox_block h.m e6 hg.size, (World.cell?_of_block (a := ⟨_, 0, none⟩) e7).trans h.l, (World.frozen?_of_block (a := ⟨_, 0, none⟩) e7).trans h.lf, Below.grown h.bl hg h.bl.size (fun k e => Nat.le_trans hw (hr k e).1), Nat.le_trans h.sz hg.size⟩
theorem sti_laterN {w : World} {n N g c1 ge H : Nat} {t : StO En} {X Y : World} (h : StIN w n N g c1 ge H t X) (k : Bl X Y) : StIN w n N g c1 ge H t Y :=
 ⟨h.s.later k, h.e.later k, h.a.later k, h.m.later k, (bl_cell k _ _ (cell_lt9N h.l)).trans h.l, (bl_froz k _ _ (cell_lt9N h.l)).trans h.lf, h.bl.trans k, Nat.le_trans h.sz k.size⟩
structure GdON (w : World) (n N g c1 ge : Nat) (a : En) (U : World) : Prop where
 m : MBox U (w.heap.size + 1 + 1) n n (some ⟨g, 0, none⟩) N c1
 l : U.cell? ⟨w.heap.size + 1 + 1 + 1, 0, none⟩ = some (.slice (some ⟨ge, 0, none⟩) n n)
 lf : U.frozen? ⟨w.heap.size + 1 + 1 + 1, 0, none⟩ = false
 a : Box U (w.heap.size + 1 + 1 + 1 + 1) a
def RelGN (w : World) (n N g c1 ge : Nat) (a : En) (x y : World) : Prop := But (fun b => b = w.heap.size + 1 + 1 ∨ b = w.heap.size + 1 + 1 + 1 ∨ b = w.heap.size + 1 + 1 + 1 + 1) x y ∧ (GdON w n N g c1 ge a x → GdON w n N g c1 ge a y)
theorem RelGN.refl {w : World} {n N g c1 ge : Nat} {a : En} (x : World) : RelGN w n N g c1 ge a x x := ⟨But.refl _ _, id⟩
theorem gd_laterN {w : World} {n N g c1 ge : Nat} {a : En} {x y : World} (h : GdON w n N g c1 ge a x) (k : Bl x y) : GdON w n N g c1 ge a y := ⟨h.m.later k, (bl_cell k _ _ (cell_lt9N h.l)).trans h.l, (bl_froz k _ _ (cell_lt9N h.l)).trans h.lf, h.a.later k⟩
theorem RelGN.refl0 {w : World} {n N g c1 ge : Nat} {a : En} (x : World) : RelGN w n N g c1 ge a x x.drew := ⟨But.of_bl (Bl.refl _).drew, fun h => gd_laterN h (Bl.refl _).drew⟩
theorem RelGN.trans {w : World} {n N g c1 ge : Nat} {a : En} {x y z : World} (h : RelGN w n N g c1 ge a x y) (k : RelGN w n N g c1 ge a y z) : RelGN w n N g c1 ge a x z := ⟨h.1.trans k.1, fun q => k.2 (h.2 q)⟩
theorem RelGN.m {w : World} {n N g c1 ge : Nat} {a : En} (u : World) : RelGN w n N g c1 ge a u (((u.setCell ⟨w.heap.size + 1 + 1, 0, none⟩ (.int .i64 n)).setCell ⟨w.heap.size + 1 + 1, 1, none⟩ (.int .i64 n)).setCell ⟨w.heap.size + 1 + 1, 2, none⟩ (.slice (some ⟨g, 0, none⟩) N c1)) := by
 have b : But (fun i => i = w.heap.size + 1 + 1) u (((u.setCell ⟨w.heap.size + 1 + 1, 0, none⟩ (.int .i64 n)).setCell ⟨w.heap.size + 1 + 1, 1, none⟩ (.int .i64 n)).setCell ⟨w.heap.size + 1 + 1, 2, none⟩ (.slice (some ⟨g, 0, none⟩) N c1)) := ((but_cell1 (S := fun i => i = w.heap.size + 1 + 1) rfl _ _ _).trans (but_cell1 (S := fun i => i = w.heap.size + 1 + 1) rfl _ _ _)).trans (but_cell1 (S := fun i => i = w.heap.size + 1 + 1) rfl _ _ _)
 exact ⟨b.mono fun i h => .inl h, fun h => ⟨h.m.fill _ _ _ _ _, (b.cell _ _ (cell_lt9N h.l) (by show ¬ w.heap.size + 1 + 1 + 1 = w.heap.size + 1 + 1; omega)).trans h.l, (b.froz _ _ (cell_lt9N h.l) (by show ¬ w.heap.size + 1 + 1 + 1 = w.heap.size + 1 + 1; omega)).trans h.lf, h.a.but b (by show ¬ w.heap.size + 1 + 1 + 1 + 1 = w.heap.size + 1 + 1; omega)⟩⟩
theorem RelGN.l {w : World} {n N g c1 ge : Nat} {a : En} (u : World) : RelGN w n N g c1 ge a u (u.setCell ⟨w.heap.size + 1 + 1 + 1, 0, none⟩ (.slice (some ⟨ge, 0, none⟩) n n)) := by
 have b : But (fun i => i = w.heap.size + 1 + 1 + 1) u (u.setCell ⟨w.heap.size + 1 + 1 + 1, 0, none⟩ (.slice (some ⟨ge, 0, none⟩) n n)) := but_cell1 (S := fun i => i = w.heap.size + 1 + 1 + 1) rfl _ _ _
 exact ⟨b.mono fun i h => .inr (.inl h), fun h => ⟨h.m.but b (by show ¬ w.heap.size + 1 + 1 = w.heap.size + 1 + 1 + 1; omega), by have := h.l; simp [go_sem, this], by have := h.lf; simp [go_sem, this], h.a.but b (by show ¬ w.heap.size + 1 + 1 + 1 + 1 = w.heap.size + 1 + 1 + 1; omega)⟩⟩
theorem RelGN.a {w : World} {n N g c1 ge : Nat} {a : En} (u : World) : RelGN w n N g c1 ge a u ((((u.setCell ⟨w.heap.size + 1 + 1 + 1 + 1, 0, none⟩ (.int .i64 a.v)).setCell ⟨w.heap.size + 1 + 1 + 1 + 1, 1, none⟩ (.int .i64 a.l)).setCell ⟨w.heap.size + 1 + 1 + 1 + 1, 2, none⟩ (.int .i64 a.h)).setCell ⟨w.heap.size + 1 + 1 + 1 + 1, 3, none⟩ (.bool a.bad)) := by
 have b : But (fun i => i = w.heap.size + 1 + 1 + 1 + 1) u ((((u.setCell ⟨w.heap.size + 1 + 1 + 1 + 1, 0, none⟩ (.int .i64 a.v)).setCell ⟨w.heap.size + 1 + 1 + 1 + 1, 1, none⟩ (.int .i64 a.l)).setCell ⟨w.heap.size + 1 + 1 + 1 + 1, 2, none⟩ (.int .i64 a.h)).setCell ⟨w.heap.size + 1 + 1 + 1 + 1, 3, none⟩ (.bool a.bad)) := butRN _ _ _ _ _ _
 exact ⟨b.mono fun i h => .inr (.inr h), fun h => ⟨h.m.but b (by show ¬ w.heap.size + 1 + 1 = w.heap.size + 1 + 1 + 1 + 1; omega), (b.cell _ _ (cell_lt9N h.l) (by show ¬ w.heap.size + 1 + 1 + 1 = w.heap.size + 1 + 1 + 1 + 1; omega)).trans h.l, (b.froz _ _ (cell_lt9N h.l) (by show ¬ w.heap.size + 1 + 1 + 1 = w.heap.size + 1 + 1 + 1 + 1; omega)).trans h.lf, h.a.fill a⟩⟩
theorem oneN (x : En) : ∀ v ∈ cellsN x, v.oneCell' = true := by
 intro v hv
 simp [cellsN] at hv
 rcases hv with rfl | rfl | rfl | rfl <;> rfl
theorem make_zeroON (n : Nat) (hn : n ≤ 1000) (u : World) : ∃ u', (Instr.makeSlice 22 (.int .i64 n) (.int .i64 n)).run Tryz.prog u = .ok (.slice (some ⟨u.heap.size, 0, none⟩) n n) u' ∧ Rq 1 cI u' (.slice (some ⟨u.heap.size, 0, none⟩) n n) (linJ n fun _ => (0 : Int)) ∧ Bl u u' := by
 obtain ⟨i0, hi, hz0, hz1, hz2⟩ := info_parts (show (Tryz.prog.info? 3).map (fun i => (i.zero, i.size, i.bytes)) = some (some (.int .i64 0), 1, 8) by kernel_rfl)
 obtain ⟨u', h1, h2, h3⟩ := run_makeSlice_full (P := Tryz.prog) (w := u) u.heap.size 22 3 i0 (.int .i64 0) 1 (by kernel_rfl) hi hz0 hz1 .i64 .i64 n (by omega) (by rw [hz2]; omega) (by unfold maxLen; omega) (Nat.le_refl _)
 refine ⟨u', h1, ?_, (Bl.refl u).grown h3 (Nat.le_refl _) (fun k e => by cases e)⟩
 have e : (madeCells (Value.cells (.int .i64 0)) (n * 1)).toList = (linJ n fun _ => (0 : Int)).flatMap cI := by
  rw [show (linJ n fun _ => (0 : Int)).flatMap cI = (linJ n fun _ => (0 : Int)).map (fun x => (.int .i64 x : Value)) from flatI_map _, Nat.mul_one]
  rw [show (linJ n fun _ => (0 : Int)) = List.replicate n 0 from by unfold linJ; rw [List.map_const']; simp, List.map_replicate]
  exact toList_madeCells_one _ _
 rw [e] at h2
 have h4 := Rw.of_own (s := 1) (c := cI) (fun _ => rfl) (xs := linJ n fun _ => (0 : Int)) (by rw [linJ_len]; exact h2)
 exact h4.q
theorem whole_linON (p : Option Addr) (n cap : Nat) (h : Nat → Int) (w : World) (hr : Rq 1 cI w (.slice p n cap) (linJ n h)) (hl : n ≤ 1000000) :
  Calls Tryz.prog 35 #[.slice p n cap] w fun e w' => ∃ q c, e = .returned (.slice q n c) ∧ Rw 4 cellsN w' (.slice q n c) (linJ n fun i => wholeN (h i)) ∧ Fresh w.heap.size (.slice q n c) ∧ Bl w w' :=
 (vWholeN' _ _ w hr (by rw [linJ_len]; exact hl)).mono fun e w' ⟨u, he, hr, hf, hb⟩ => by
  rw [linJ_map] at hr
  obtain ⟨q, c, rfl, _, _⟩ := hr.cut
  rw [linJ_len] at hr hf he
  exact ⟨q, c, he, hr, hf, hb⟩
theorem rq_cells0N {w : World} {p : Option Addr} {n cap : Nat} {f : Nat → En} (h : Rq 4 cellsN w (.slice p n cap) (linJ n f)) (h1 : 1 ≤ n) : ∃ b o, p = some ⟨b, o, none⟩ ∧ ∀ j v, ((linJ n f).flatMap cellsN)[j]? = some v → w.cell? ((⟨b, o, none⟩ : Addr).add j) = some v := by
 rcases h with ⟨p', cap', e, hx, _⟩ | ⟨b, o, cap', e, hc, hb, hx⟩
 ·have := congrArg List.length hx
  rw [linJ_len] at this
  simp at this
  omega
 ·simp only [Value.slice.injEq] at e
  refine ⟨b, o, e.1, fun j v hj => ?_⟩
  have hjl : j < n * 4 := by have := (List.getElem?_eq_some_iff.1 hj).1; rwa [flat_len cellsN_len, linJ_len] at this
  have h1 : j / 4 < n := (Nat.div_lt_iff_lt_mul (by decide)).2 hjl
  have h3 : j % 4 < 4 := Nat.mod_lt _ (by decide)
  have e2 : j = j / 4 * 4 + j % 4 := by rw [Nat.mul_comm]; exact (Nat.div_add_mod j 4).symm
  rw [e2, flat_get cellsN_len _ _ _ _ (linJ_get f h1) h3] at hj
  rw [add_off _ _ rfl]
  have := hx _ _ (linJ_get f h1) _ _ hj
  show w.cell? ⟨b, o + j, none⟩ = some v
  rw [e2, ← Nat.add_assoc]
  exact this
set_option maxRecDepth 100000 in
set_option maxHeartbeats 8000000 in
theorem rTakenN (n N : Nat) (p : Option Addr) (cap : Nat) (s : Nat → Nat → En) (ph : Option Addr) (ch : Nat) (h : Nat → En) (r : En) (w : World) (hS : Mx 4 cellsN w n n p N cap s) (hh : Rq 4 cellsN w (.slice ph n ch) (linJ n h)) :
  Calls Tryz.prog 74 #[mV n n p N cap, .slice ph n ch, enV r] w fun e w' => ∃ g c ge ce, e = .returned (.tuple #[mV n n (some ⟨g, 0, none⟩) N c, .slice (some ⟨ge, 0, none⟩) n ce, enV (runO kdN n s h r n).a]) ∧ (RwZ 4 cellsN w' w.heap.size (.slice (some ⟨g, 0, none⟩) N c) (mk n n (runO kdN n s h r n).s) ∧ RwZ 4 cellsN w' w.heap.size (.slice (some ⟨ge, 0, none⟩) n ce) (linJ n (runO kdN n s h r n).e)) ∧ Bl w w' := by
 have fm : Tryz.prog.follows .mixedOrders = true := by kernel_rfl
 have egW := enters_of Tryz.func35 (by kernel_rfl) rfl
 obtain ⟨i0, hi, hz0, hz1, hz2⟩ := info_parts Tryz.info_N
 refine (callsIn_wide (n := 8)).1 ?_
 have hd := hS.1
 have hN := hS.2.1
 have hfit := hS.fit
 have hn16 := hd.r2
 have n1 := hd.r1
 have HSM := hideP hS
 have HHM := hideP hh
 obtain ⟨W, hW⟩ : ∃ W, W = ((((w.alloc (.cells #[.int .i64 n, .int .i64 n, .slice p N cap] 48)).alloc (.cells #[.int .i64 r.v, .int .i64 r.l, .int .i64 r.h, .bool r.bad] 52)).alloc (.cells #[.int .i64 0, .int .i64 0, .slice none 0 0] 48)).alloc (.cells #[.slice none 0 0] 46)).alloc (.cells #[.int .i64 0, .int .i64 0, .int .i64 0, .bool false] 52) := ⟨_, rfl⟩
 have b0 : Bl w W := by rw [hW]; exact (((((Bl.refl _).alloc _).alloc _).alloc _).alloc _).alloc _
 have hWs : W.heap.size = w.heap.size + 1 + 1 + 1 + 1 + 1 := by rw [hW]; simp
 have m0 : MBox W w.heap.size n n p N cap := by rw [hW]; exact (MBox.new w _ _ _ _ _ _).later (((((Bl.refl _).alloc _).alloc _).alloc _).alloc _)
 have kr : Box W (w.heap.size + 1) r := by rw [hW]; have := (Box.new (w.alloc (.cells #[.int .i64 n, .int .i64 n, .slice p N cap] 48)) r 52).later ((((Bl.refl _).alloc (.cells #[.int .i64 0, .int .i64 0, .slice none 0 0] 48)).alloc (.cells #[.slice none 0 0] 46)).alloc (.cells #[.int .i64 0, .int .i64 0, .int .i64 0, .bool false] 52)); simp only [World.size_alloc] at this; exact this
 have z6 : MBox W (w.heap.size + 1 + 1) 0 0 none 0 0 := by rw [hW]; have := (MBox.new ((w.alloc (.cells #[.int .i64 n, .int .i64 n, .slice p N cap] 48)).alloc (.cells #[.int .i64 r.v, .int .i64 r.l, .int .i64 r.h, .bool r.bad] 52)) 0 0 none 0 0 48).later (((Bl.refl _).alloc (.cells #[.slice none 0 0] 46)).alloc (.cells #[.int .i64 0, .int .i64 0, .int .i64 0, .bool false] 52)); simp only [World.size_alloc] at this; exact this
 have s7 : W.cell? ⟨w.heap.size + 1 + 1 + 1, 0, none⟩ = some (.slice none 0 0) := by rw [hW]; simp [go_sem]
 have f7 : W.frozen? ⟨w.heap.size + 1 + 1 + 1, 0, none⟩ = false := by rw [hW]; simp [go_sem]
 have k8 : Box W (w.heap.size + 1 + 1 + 1 + 1) zeroE := by rw [hW]; have := (Box.new ((((w.alloc (.cells #[.int .i64 n, .int .i64 n, .slice p N cap] 48)).alloc (.cells #[.int .i64 r.v, .int .i64 r.l, .int .i64 r.h, .bool r.bad] 52)).alloc (.cells #[.int .i64 0, .int .i64 0, .slice none 0 0] 48)).alloc (.cells #[.slice none 0 0] 46)) zeroE 52); simp only [World.size_alloc] at this; exact this
 have NW := hideP (mNewZN (n : Int) (n : Int) p N cap (mk n n s) W (hS.2.2.later b0) hfit (by rw [mk_len, hN]))
 have HW := hideP hW
 have HNN := hideP hN
 clear hW hS hh hN
 refine callsIn_of_wp_marks Tryz.func74 rfl trivial ?_ rfl
 refine wpIn_wide.2 ?_
 simp only [Tryz.ntmps74, List.size_toArray, List.length_cons, List.length_nil, Nat.reduceAdd, Nat.reduceSub, Array.replicate_succ, Array.replicate_zero, List.push_toArray, List.append_toArray, List.nil_append, List.cons_append]
 obtain ⟨c0, c1, c2, _, _, _, _⟩ := id m0
 rw [HW.out] at c0 c1 c2
 go_wp2_with fail
 try simp only [World.size_alloc]
 rw [← HW.out]
 refine NW.out.mono ?_
 rintro e w1 ⟨p1, c1', rfl, hZ, h1⟩
 clear c0 c1 c2 NW
 obtain ⟨g, cg, eg, hcg, hlog, hgl, _, _⟩ := id hZ
 simp only [Value.slice.injEq] at eg
 obtain ⟨rfl, e2, e3⟩ := eg
 clear e2 e3 hcg
 obtain ⟨W1, hW1⟩ : ∃ W1, W1 = ((w1.setCell ⟨w.heap.size + 1 + 1, 0, none⟩ (.int .i64 n)).setCell ⟨w.heap.size + 1 + 1, 1, none⟩ (.int .i64 n)).setCell ⟨w.heap.size + 1 + 1, 2, none⟩ (.slice (some ⟨g, 0, none⟩) N c1') := ⟨_, rfl⟩
 have bu1 : But (fun b => b = w.heap.size + 1 + 1) w1 W1 := by rw [hW1]; exact ((but_cell1 (S := fun i => i = w.heap.size + 1 + 1) rfl _ _ _).trans (but_cell1 (S := fun i => i = w.heap.size + 1 + 1) rfl _ _ _)).trans (but_cell1 (S := fun i => i = w.heap.size + 1 + 1) rfl _ _ _)
 have B1 : Bl w W1 := by rw [hW1]; exact Bl.put3 (b0.trans h1) (by omega) _ _ _
 have z61 : MBox W1 (w.heap.size + 1 + 1) n n (some ⟨g, 0, none⟩) N c1' := by rw [hW1]; exact (z6.later h1).fill _ _ _ _ _
 have m1 : MBox W1 w.heap.size n n p N cap := (m0.later h1).but bu1 (by omega)
 have kr1 : Box W1 (w.heap.size + 1) r := (kr.later h1).but bu1 (by omega)
 have k81 : Box W1 (w.heap.size + 1 + 1 + 1 + 1) zeroE := (k8.later h1).but bu1 (by omega)
 have s71 : W1.cell? ⟨w.heap.size + 1 + 1 + 1, 0, none⟩ = some (.slice none 0 0) := (bu1.cell _ _ (by have := h1.size; omega) (by omega)).trans ((bl_cell h1 _ _ (by omega)).trans s7)
 have f71 : W1.frozen? ⟨w.heap.size + 1 + 1 + 1, 0, none⟩ = false := (bu1.froz _ _ (by have := h1.size; omega) (by omega)).trans ((bl_froz h1 _ _ (by omega)).trans f7)
 have HZ1 := hideP (hZ.but bu1 (fun b hb => by cases hb; show ¬ g = w.heap.size + 1 + 1; omega))
 have g1l : g < W1.heap.size := HZ1.out.glt
 have w1s : w.heap.size + 1 + 1 + 1 + 1 + 1 ≤ W1.heap.size := by have := h1.size; have := bu1.size; omega
 obtain ⟨q0, q1, q2, q3, q4, q5, _⟩ := z6.later h1
 obtain ⟨c0, c1, c2, _, _, _, _⟩ := id m1
 have HW1 := hideP hW1
 rw [hW1] at c0 c1 c2
 clear hW1 hZ m0 kr z6 s7 f7 k8
 go_wp2_with fail
 rw [← HW1.out]
 refine (mTurnN n n p N cap s W1 (HSM.out.later B1)).mono ?_
 rintro e w2 ⟨p2, c2', rfl, ⟨hT, _, _⟩, h2⟩
 clear q0 q1 q2 q3 q4 q5 c0 c1 c2
 go_wp2_with fail
 refine (mApplyN' n n p2 N c2' (fun i k => s k i) ph ch (linJ n h) w2 hT (HHM.out.later (B1.trans h2)) (linJ_len _ _)).mono ?_
 rintro e w3 ⟨pw, cw, rfl, hRw, hFw, h3⟩
 have HRW := hideP (show Rw 4 cellsN w3 (.slice pw n cw) (linJ n (wO kdN n s h)) from hRw)
 have b13 : Bl W1 w3 := h2.trans h3
 clear hT hRw
 have s73 := (bl_cell b13 _ 0 (by omega)).trans s71
 have f73 := (bl_froz b13 _ 0 (by omega)).trans f71
 have hse : w.heap.size + 1 + 1 + 1 < w3.heap.size := by have := b13.size; omega
 go_wp2_with (at_make; refine wpList_make_full _ rfl _ _ 46 rfl w3.heap.size 52 i0 (.agg #[.int .i64 0, .int .i64 0, .int .i64 0, .bool false]) 4 Tryz.underlying46 hi hz0 hz1 .i64 .i64 _ _ n rfl rfl (by simp) (by simp) (by rw [hz2]; omega) (by unfold maxLen; omega) (by simp) ?_; intro w4 hown4 hgrow4; have s74 := (bl_cell ((Bl.refl w3).grown hgrow4 (Nat.le_refl _) (fun k e => by cases e)) _ 0 hse).trans s73; have f74 := (bl_froz ((Bl.refl w3).grown hgrow4 (Nat.le_refl _) (fun k e => by cases e)) _ 0 hse).trans f73)
 obtain ⟨ge, hge⟩ : ∃ ge, ge = w3.heap.size := ⟨_, rfl⟩
 have b34 : Bl w3 w4 := (Bl.refl w3).grown hgrow4 (Nat.le_refl _) (fun k e => by cases e)
 obtain ⟨W4, hW4⟩ : ∃ W4, W4 = w4.setCell ⟨w.heap.size + 1 + 1 + 1, 0, none⟩ (.slice (some ⟨w3.heap.size, 0, none⟩) n n) := ⟨_, rfl⟩
 have bu4 : But (fun b => b = w.heap.size + 1 + 1 + 1) w4 W4 := by rw [hW4]; exact but_cell1 (S := fun i => i = w.heap.size + 1 + 1 + 1) rfl _ _ _
 have own4 := ownsRow_setCell_below hown4 (a := ⟨w.heap.size + 1 + 1 + 1, 0, none⟩) hse (.slice (some ⟨w3.heap.size, 0, none⟩) n n)
 rw [← hW4, ← hge] at own4
 have s7w : W4.cell? ⟨w.heap.size + 1 + 1 + 1, 0, none⟩ = some (.slice (some ⟨ge, 0, none⟩) n n) := by rw [hW4, hge]; simp [go_sem, s74]
 have HW4 := hideP hW4
 have geW : ge < W4.heap.size := (own4.lt ge rfl).2
 have OWN4 := hideP own4
 clear hW4 s74 f74 own4 hown4
 have w4s : W4.heap.size = w4.heap.size := by rw [HW4.out]; simp
 have bw34 : w3.heap.size ≤ w4.heap.size := b34.size
 have HRW4 := hideP ((HRW.out.later b34).but bu4 (fun b hb => by have := hFw b hb; have := h2.size; show ¬ b = w.heap.size + 1 + 1 + 1; omega))
 have gwn : ∀ b, (Value.slice pw n cw).ownBlock = some b → b ≠ ge ∧ b ≠ g ∧ w.heap.size + 1 + 1 + 1 + 1 < b := fun b hb => by
  have h5 := hFw b hb
  have h6 := HRW.out.lt b hb
  have h7 := h2.size
  exact ⟨by omega, by omega, by omega⟩
 have HZ4 := hideP (((HZ1.out.later b13).later b34).but bu4 (fun b hb => by cases hb; show ¬ g = w.heap.size + 1 + 1 + 1; omega))
 have b14 : Bl W1 w4 := b13.trans b34
 have z64 : MBox W4 (w.heap.size + 1 + 1) n n (some ⟨g, 0, none⟩) N c1' := (z61.later b14).but bu4 (by omega)
 have kr4 : Box W4 (w.heap.size + 1) r := (kr1.later b14).but bu4 (by omega)
 have k84 : Box W4 (w.heap.size + 1 + 1 + 1 + 1) zeroE := (k81.later b14).but bu4 (by omega)
 have f7w : W4.frozen? ⟨w.heap.size + 1 + 1 + 1, 0, none⟩ = false := by rw [HW4.out]; simp [go_sem]; exact (bl_froz b34 _ 0 hse).trans f73
 have B4 : Bl w W4 := by rw [HW4.out]; exact Bl.set ((B1.trans b14)) (by show w.heap.size ≤ w.heap.size + 1 + 1 + 1; omega) _
 have g5 : g < ge := by have := b13.size; omega
 have ge5 : w.heap.size + 1 + 1 + 1 + 1 + 1 ≤ ge := by have := b13.size; omega
 have gge : g ≠ ge := by omega
 have SEVEN := fun (u : World) (hu : RelON ge w3.heap.size n (linJ n fun _ => wholeN 0) W4 u) => (hu.but.cell (w.heap.size + 1 + 1 + 1) 0 (by omega) (by omega)).trans s7w
 have GEU := fun (u : World) (hu : RelON ge w3.heap.size n (linJ n fun _ => wholeN 0) W4 u) => Nat.lt_of_lt_of_le geW hu.but.size
 have FL : ((linJ n fun _ => wholeN 0).flatMap cellsN).length = n * 4 := by rw [flat_len cellsN_len, linJ_len]
 have ONEC : ∀ v ∈ (linJ n fun _ => wholeN 0).flatMap cellsN, v.oneCell' = true := fun v hv => by
  obtain ⟨x, _, hx⟩ := List.mem_flatMap.1 hv
  exact oneN x v hx
 have CANZ : ∀ u (hu : RelON ge w3.heap.size n (linJ n fun _ => wholeN 0) W4 u), (∀ j, j < ((linJ n fun _ => wholeN 0).flatMap cellsN).length → (u.cell? ⟨ge, 0 + j, none⟩).isSome = true) ∧ (∀ j, j < ((linJ n fun _ => wholeN 0).flatMap cellsN).length → u.frozen? ⟨ge, 0 + j, none⟩ = false) ∧ RwZ 4 cellsN (u.setCells ge 0 ((linJ n fun _ => wholeN 0).flatMap cellsN)) w3.heap.size (.slice (some ⟨ge, 0, none⟩) n n) (linJ n fun _ => wholeN 0) := fun u hu => by
  rcases hu with hb | ⟨_, hz⟩
  ·have H := RwZ.copy cellsN_len (own_blN OWN4.out hb) (xs := linJ n fun _ => wholeN 0) (linJ_len _ _) n1
   rw [Nat.zero_mul] at H
   exact ⟨H.2.1, fun j _ => H.2.2 j, H.1.base (by omega)⟩
  ·have H := RwZ.againN hz
   exact ⟨H.1, H.2, RwZ.copy2N hz⟩
 clear s71 f71 s73 f73 hi hz0 hz1 hz2
 rw [← HW4.out, ← hge]
 have HGE := hideP hge
 clear hge
 refine (wpIn_wide (n := 8)).1 (region_r fm (RelON ge w3.heap.size n (linJ n fun _ => wholeN 0)) [some 33, some 34, some 35, some 36, some 37, some 38] (by kernel_rfl) (by rfl) (.inl (Bl.refl _).drew) (fun h k => h.trans k)
  (fun j v u => match j with | 0 => v = .slice (some ⟨ge, 0, none⟩) n n | 1 => v = .slice ph n ch | 2 => v = .int .i64 n | 3 => ∃ g', v = .slice (some ⟨g', 0, none⟩) n n ∧ Rq 1 cI u (.slice (some ⟨g', 0, none⟩) n n) (linJ n fun _ => (0 : Int)) ∧ g' ≠ ge | 4 => ∃ q c, v = .slice q n c ∧ Rw 4 cellsN u (.slice q n c) (linJ n fun _ => wholeN 0) ∧ ∀ g', (Value.slice q n c).ownBlock = some g' → g' ≠ ge | 5 => v = .int .i64 n ∧ RwZ 4 cellsN u w3.heap.size (.slice (some ⟨ge, 0, none⟩) n n) (linJ n fun _ => wholeN 0) | _ => False)
  (by
   intro j v u u' hR0 hb h
   split at h <;> first | exact h | (obtain ⟨g', e, h1, h2⟩ := h; exact ⟨g', e, rq_butN h1 hb.but (fun g hg => by cases hg; exact h2), h2⟩) | (obtain ⟨q, c, e, h1, h2⟩ := h; exact ⟨q, c, e, h1.but hb.but h2, h2⟩) | exact ⟨h.1, hb.rwz h.2⟩) ?step ?fin)
 case step =>
  intro j o act u ho hsz hu hfr hin hnon
  have hj : j < 6 := (Array.getElem?_eq_some_iff.1 ho).1
  have s7' := SEVEN u hu
  have hgeu : ge < u.heap.size := GEU u hu
  rcases (by omega : j = 0 ∨ j = 1 ∨ j = 2 ∨ j = 3 ∨ j = 4 ∨ j = 5) with rfl | rfl | rfl | rfl | rfl | rfl
  ·obtain rfl := Option.some.inj (opYJ ho)
   have i7 : act.eval (.tmp (7 : Nat)) = .pointer (some ⟨w.heap.size + 1 + 1 + 1, 0, none⟩) := hfr 7 (by decide)
   exact plain_wp (by intro c h; cases h) (fun _ _ => trivial) (by simp only [execOp, i7, evalC, evalF, evalG]; simp [go_sem, s7']) ⟨_, rfl, rfl, .inl (Bl.refl _)⟩
  ·obtain rfl := Option.some.inj (opYJ ho)
   have i1 : act.eval (.tmp (1 : Nat)) = .slice ph n ch := hfr 1 (by decide)
   exact plain_wp (by intro c h; cases h) (fun _ _ => trivial) (by simp only [execOp, i1, evalC, evalF, evalG]; simp [go_sem, hn16]) ⟨_, rfl, rfl, .inl (Bl.refl _)⟩
  ·obtain rfl := Option.some.inj (opYJ ho)
   have i34 : (act.eval (.tmp (34 : Nat))) = .slice ph n ch := hin ⟨1, .data⟩ (by simp) rfl 34 rfl
   exact plain_wp (by intro c h; cases h) (fun _ _ => trivial) (by simp only [execOp, resolve, List.map_toArray, List.map_cons, List.map_nil, i34]; simp [invoke, builtin, Builtin.len_, Builtin.lenOf, Result.andThen, go_sem]) ⟨_, rfl, rfl, .inl (Bl.refl _)⟩
  ·obtain rfl := Option.some.inj (opYJ ho)
   have i35 : (act.eval (.tmp (35 : Nat))) = .int .i64 n := hin ⟨2, .data⟩ (by simp) rfl 35 rfl
   obtain ⟨u', hr, hq, hb⟩ := make_zeroON n (by omega) u
   exact plain_wp (by intro c h; cases h) (fun _ _ => trivial) (w' := u') (v := .slice (some ⟨u.heap.size, 0, none⟩) n n) (by simp only [execOp, i35]; rw [Sem.run_bind, hr]; rfl) ⟨_, rfl, ⟨u.heap.size, rfl, hq, by have := hgeu; omega⟩, .inl hb⟩
  ·obtain rfl := Option.some.inj (opYJ ho)
   have i36 : ∃ g', (act.eval (.tmp (36 : Nat))) = .slice (some ⟨g', 0, none⟩) n n ∧ Rq 1 cI u (.slice (some ⟨g', 0, none⟩) n n) (linJ n fun _ => (0 : Int)) ∧ g' ≠ ge := hin ⟨3, .data⟩ (by simp) rfl 36 rfl
   obtain ⟨g0, e0, hg, _⟩ := i36
   refine enter_wp 35 #[.slice (some ⟨g0, 0, none⟩) n n] (by intro c h; cases h) (fun _ _ => trivial) (by simp only [execOp, evalC, evalF, evalG, resolve, e0, List.map_toArray, List.map_cons, List.map_nil]; simp [invoke, egW, Result.andThen, go_sem]) (by intro h; cases h) (callsIn_wide.2 (whole_linON _ n n (fun _ => (0 : Int)) u hg (by omega))) ?_
   rintro e w' ⟨q, c, rfl, hR, hF, hb⟩
   exact ⟨_, rfl, _, rfl, ⟨q, c, rfl, hR, fun g' e => by have := hF g' e; have := hgeu; omega⟩, .inl hb⟩
  ·obtain rfl := Option.some.inj (opYJ ho)
   have i33 : (act.eval (.tmp (33 : Nat))) = .slice (some ⟨ge, 0, none⟩) n n := hin ⟨0, .data⟩ (by simp) rfl 33 rfl
   have i37 : ∃ q c, (act.eval (.tmp (37 : Nat))) = .slice q n c ∧ Rw 4 cellsN u (.slice q n c) (linJ n fun _ => wholeN 0) ∧ ∀ g', (Value.slice q n c).ownBlock = some g' → g' ≠ ge := hin ⟨4, .data⟩ (by simp) rfl 37 rfl
   obtain ⟨q0, c0', e0, hq, hqn⟩ := i37
   obtain ⟨gq, oq, rfl, CQ⟩ := rq_cells0N hq.q (by omega)
   obtain ⟨hsm, hfz, hnew⟩ := CANZ u hu
   exact plain_wp (by intro c h; cases h) (fun _ _ => trivial) (v := .int .i64 n) (by simp only [execOp, resolve, List.map_toArray, List.map_cons, List.map_nil, i33, e0]; simp [invoke, builtin, goInt, run_copy_s (P := Tryz.prog) u 46 46 _ 52 4 ge 0 n n ⟨gq, oq, none⟩ n c0' n ((linJ n fun _ => wholeN 0).flatMap cellsN) Tryz.underlying46 Tryz.sizeN (by simp) FL CQ hsm hfz ONEC, Result.andThen]) ⟨_, rfl, ⟨rfl, hnew⟩, .inr ⟨but_setCells (S := fun b => b = ge) (b := ge) rfl _ _ _ _ (But.refl _ _), hnew⟩⟩
 case fin =>
  intro vs u hu hin hnon
  have a0 := hin 0 33 rfl
  have a1 := hin 1 34 rfl
  have a2 := hin 2 35 rfl
  have a3 := hin 3 36 rfl
  have a4 := hin 4 37 rfl
  have a5 := hin 5 38 rfl
  simp only [putL, Act.put, List.setIfInBounds_toArray, List.set_cons_zero, List.set_cons_succ, Nat.zero_add, Nat.reduceAdd, if_true, reduceIte] at a0 a1 a2 a3 a4 a5 ⊢
  simp only [a0, a1, a2, a5]
  obtain ⟨w5, rfl⟩ : ∃ w5, w5 = u := ⟨_, rfl⟩
  have bu45 : But (fun b => b = ge) W4 w5 := hu.but
  have HE5 := hideP a5.2
  have HZ5 := hideP (HZ4.out.but bu45 (fun b hb => by cases hb; exact gge))
  have HRW5 := hideP (HRW4.out.but bu45 (fun b hb => (gwn b hb).1))
  have z65 : MBox w5 (w.heap.size + 1 + 1) n n (some ⟨g, 0, none⟩) N c1' := z64.but bu45 (by show ¬ w.heap.size + 1 + 1 = ge; omega)
  have kr5 : Box w5 (w.heap.size + 1) r := kr4.but bu45 (by show ¬ w.heap.size + 1 = ge; omega)
  have k85 : Box w5 (w.heap.size + 1 + 1 + 1 + 1) zeroE := k84.but bu45 (by show ¬ w.heap.size + 1 + 1 + 1 + 1 = ge; omega)
  have s75 : w5.cell? ⟨w.heap.size + 1 + 1 + 1, 0, none⟩ = some (.slice (some ⟨ge, 0, none⟩) n n) := (bu45.cell _ _ (by omega) (by show ¬ w.heap.size + 1 + 1 + 1 = ge; omega)).trans s7w
  have f75 : w5.frozen? ⟨w.heap.size + 1 + 1 + 1, 0, none⟩ = false := (bu45.froz _ _ (by omega) (by show ¬ w.heap.size + 1 + 1 + 1 = ge; omega)).trans f7w
  have B5 : Bl w w5 := bu45.bl B4 (fun i hi => by have : i = ge := hi; omega)
  have w5s : W4.heap.size ≤ w5.heap.size := bu45.size
  clear a0 a1 a2 a3 a4 a5 hin hnon SEVEN GEU CANZ s7w f7w z64 kr4 k84
  obtain ⟨W5, hW5⟩ : ∃ W5, W5 = ((((w5.setCell ⟨w.heap.size + 1 + 1 + 1 + 1, 0, none⟩ (.int .i64 r.v)).setCell ⟨w.heap.size + 1 + 1 + 1 + 1, 1, none⟩ (.int .i64 r.l)).setCell ⟨w.heap.size + 1 + 1 + 1 + 1, 2, none⟩ (.int .i64 r.h)).setCell ⟨w.heap.size + 1 + 1 + 1 + 1, 3, none⟩ (.bool r.bad)) := ⟨_, rfl⟩
  have bu5 : But (fun b => b = w.heap.size + 1 + 1 + 1 + 1) w5 W5 := by rw [hW5]; exact butRN _ _ _ _ _ _
  have kA : Box W5 (w.heap.size + 1 + 1 + 1 + 1) r := by rw [hW5]; exact k85.fill r
  have HZ6 := hideP (HZ5.out.but bu5 (fun b hb => by cases hb; show ¬ g = w.heap.size + 1 + 1 + 1 + 1; omega))
  have HE6 := hideP (HE5.out.but bu5 (fun b hb => by cases hb; show ¬ ge = w.heap.size + 1 + 1 + 1 + 1; omega))
  have HRW6 := hideP (HRW5.out.but bu5 (fun b hb => by have := (gwn b hb).2.2; show ¬ b = w.heap.size + 1 + 1 + 1 + 1; omega))
  have z66 : MBox W5 (w.heap.size + 1 + 1) n n (some ⟨g, 0, none⟩) N c1' := z65.but bu5 (by omega)
  have s76 : W5.cell? ⟨w.heap.size + 1 + 1 + 1, 0, none⟩ = some (.slice (some ⟨ge, 0, none⟩) n n) := (bu5.cell _ _ (by omega) (by omega)).trans s75
  have f76 : W5.frozen? ⟨w.heap.size + 1 + 1 + 1, 0, none⟩ = false := (bu5.froz _ _ (by omega) (by omega)).trans f75
  have B6 : Bl w W5 := bu5.bl B5 (fun i hi => by have : i = w.heap.size + 1 + 1 + 1 + 1 := hi; omega)
  have w6s : w5.heap.size ≤ W5.heap.size := bu5.size
  obtain ⟨c0, c1, c2, c3, f0, f1, f2, f3, _⟩ := kr5
  obtain ⟨d0, d1, d2, d3, g0, g1, g2, g3, _⟩ := k85
  have HW5 := hideP hW5
  clear hW5 z65 s75 f75
  go_wp2_with fail
  rw [← HW5.out]
  refine (backwardN n pw cw (wO kdN n s h) W5 HRW6.out).mono ?_
  rintro e w6 ⟨rfl, hkb, hw6⟩
  have b56 : Bl W5 w6 := by rw [hw6]; exact (Bl.refl _).alloc _
  have h6s : w6.heap.size = W5.heap.size + 1 := by rw [hw6]; simp
  have HKB := hideP hkb
  clear hw6 hkb c0 c1 c2 c3 f0 f1 f2 f3 d0 d1 d2 d3 g0 g1 g2 g3
  have I0 : StIN w n N g c1' ge w6.heap.size ⟨s, fun _ => wholeN 0, r⟩ w6 := ⟨(HZ6.out.later b56).base (by omega), (HE6.out.later b56).base (by omega), kA.later b56, z66.later b56, (bl_cell b56 _ _ (by omega)).trans s76, (bl_froz b56 _ _ (by omega)).trans f76, B6.trans b56, Nat.le_refl _⟩
  go_wp2_with fail
  refine (wpIn_wide (n := 8)).1 (rangeW rfl (by omega) (gf := 143) (lb := #[.pointer (some ⟨W5.heap.size, 0, none⟩)]) rfl trivial (enters_of Tryz.func143 (by kernel_rfl) rfl)
   (seqBN 7 W5.heap.size n pw cw (wO kdN n s h) (But (fun b => b = g ∨ b = ge ∨ b = w.heap.size + 1 + 1 + 1 + 1 ∨ w6.heap.size ≤ b)) (fun {A C} hk hb => keptB_butN hk hb (by show ¬ (W5.heap.size = g ∨ W5.heap.size = ge ∨ W5.heap.size = w.heap.size + 1 + 1 + 1 + 1 ∨ w6.heap.size ≤ W5.heap.size); omega) (fun b hb => by have := gwn b hb; have := HRW6.out.lt b hb; show ¬ (b = g ∨ b = ge ∨ b = w.heap.size + 1 + 1 + 1 + 1 ∨ w6.heap.size ≤ b); omega)) w6 (by omega) (fun U hU => ⟨(bl_cell hU _ _ (by omega)).trans HKB.out.box, HKB.out.row.later hU⟩))
   (fun x A B h => by rw [h.1]; exact Bl.refl _) (fun h k => h.trans k) (fun U l o o' hl _ _ _ => but_putObj9N _ (.inr (.inr (.inr hl)))) (fun _ => rfl)
   (fun pre U => StIN w n N g c1' ge w6.heap.size (foldO kdN n ⟨s, fun _ => wholeN 0, r⟩ pre) U) (fun _ _ _ => False) (fun pre X Y row hs hg hr => sti_ownN hs n1 HNN.out (by omega) hg hr) (fun _ _ _ _ _ hs _ _ => hs) I0
   (fun a pre x a' U => x.1 < n ∧ ∃ b, Box U b x.2 ∧ w6.heap.size ≤ b ∧ a' = { tmps := ((((a.tmps.setIfInBounds 42 (.int .i64 x.1)).setIfInBounds 43 (enV x.2)).setIfInBounds 11 (.int .i64 x.1)).setIfInBounds 12 (.pointer (some ⟨b, 0, none⟩))), defers := [] })
   (fun pre x a' _ X Y row hs hg hr => by
    obtain ⟨h1, b, h2, h3, h4⟩ := hs
    exact ⟨h1, b, box_blk9N h2 (own_blk9N h2.c0 hg (fun r e => (hr r e).2)) hg.size, h3, h4⟩)
   ?assign ?body ?done ?stop)
  case assign =>
   rintro l pre x W0 U K' hI0 ⟨rfl, hx⟩ hI hK'
   have HK3 := hideP hK'
   have HI := hideP hI
   clear hK' hI hI0
   have kB : Bl U (U.alloc (.cells #[.int .i64 x.2.v, .int .i64 x.2.l, .int .i64 x.2.h, .bool x.2.bad] 52)) := (Bl.refl _).alloc _
   have hU := HI.out.sz
   gi_wp2
   refine HK3.out _ _ (kB.keeps _) (But.of_bl kB) (sti_laterN HI.out kB) ⟨hx, U.heap.size, Box.new U x.2 _, hU, ?_⟩
   simp only [List.setIfInBounds_toArray, List.set_cons_zero, List.set_cons_succ]
  case stop =>
   rintro D' c pre U _ _ h _
   exact h.elim
  case body =>
   rintro l pre x a' U hl' ⟨rl, hr'⟩ hI ⟨hx, b, hbx, hbl, rfl⟩ hlt
   simp only [List.setIfInBounds_toArray, List.set_cons_zero, List.set_cons_succ]
   obtain ⟨T, hT⟩ : ∃ T, T = foldO kdN n ⟨s, fun _ => wholeN 0, r⟩ pre := ⟨_, rfl⟩
   rw [← hT] at hI
   have HI := hideP hI
   have HT := hideP hT
   obtain ⟨m0, m1, m2, _, _, _, _⟩ := hI.m
   have l0 := hI.l
   obtain ⟨c0, c1, c2, c3, f0, f1, f2, f3, _⟩ := hbx
   obtain ⟨d0, d1, d2, d3, g0, g1, g2, g3, _⟩ := hI.a
   obtain ⟨nb, hnb⟩ : ∃ y, y = bO kdN T.a x.2 := ⟨_, rfl⟩
   have CH := hideP (by have := rChangeN n N g c1' ge n x.1 w.heap.size T x.2 U hd HNN.out hI.s hI.e gge hx; rw [← hnb] at this; exact this)
   have HNB := hideP hnb
   clear hI hT hnb hr'
   gi_wp2_with fail
   refine ⟨trivial, ?_⟩
   refine (CallsIn.inRound l (callsIn_wide.2 CH.out)).mono ?_
   rintro e w9 ⟨rfl, hs9, he9, bt9⟩
   have bt9' : But (fun b => b = g ∨ b = ge) U w9 := bt9
   have hU := HI.out.sz
   have kA9 : Box w9 (w.heap.size + 1 + 1 + 1 + 1) T.a := HI.out.a.but bt9 (by show ¬ (w.heap.size + 1 + 1 + 1 + 1 = g ∨ w.heap.size + 1 + 1 + 1 + 1 = ge); omega)
   have HS9 := hideP hs9
   have HE9 := hideP he9
   clear m0 m1 m2 l0 c0 c1 c2 c3 f0 f1 f2 f3 d0 d1 d2 d3 g0 g1 g2 g3 hs9 he9 bt9
   obtain ⟨d0, d1, d2, d3, g0, g1, g2, g3, _⟩ := id kA9
   gi_wp2
   obtain ⟨W9, hW9⟩ : ∃ W9, W9 = ((((w9.setCell ⟨w.heap.size + 1 + 1 + 1 + 1, 0, none⟩ (.int .i64 nb.v)).setCell ⟨w.heap.size + 1 + 1 + 1 + 1, 1, none⟩ (.int .i64 nb.l)).setCell ⟨w.heap.size + 1 + 1 + 1 + 1, 2, none⟩ (.int .i64 nb.h)).setCell ⟨w.heap.size + 1 + 1 + 1 + 1, 3, none⟩ (.bool nb.bad)) := ⟨_, rfl⟩
   have bu9 : But (fun b => b = w.heap.size + 1 + 1 + 1 + 1) w9 W9 := by rw [hW9]; exact butRN _ _ _ _ _ _
   have kf9 : Box W9 (w.heap.size + 1 + 1 + 1 + 1) nb := by rw [hW9]; exact kA9.fill nb
   have b9 : But (fun b => b = g ∨ b = ge ∨ b = w.heap.size + 1 + 1 + 1 + 1) U W9 := (bt9'.mono (fun i h => by rcases h with h | h; exact .inl h; exact .inr (.inl h))).trans (bu9.mono (fun i h => .inr (.inr h)))
   rw [← hW9]
   refine ⟨⟨b9.size, fun k o hB hk _ => (b9.block k (Array.getElem?_eq_some_iff.1 hk).1 (by show ¬ (k = g ∨ k = ge ∨ k = w.heap.size + 1 + 1 + 1 + 1); omega)).trans hk⟩, b9.mono (fun i h => by rcases h with h | h | h; exact .inl h; exact .inr (.inl h); exact .inr (.inr (.inl h))), ?_⟩
   show StIN w n N g c1' ge w6.heap.size (foldO kdN n ⟨s, fun _ => wholeN 0, r⟩ (pre ++ [x])) W9
   rw [foldO_next, ← HT.out]
   refine ⟨HS9.out.but bu9 (fun b hb => by cases hb; show ¬ g = w.heap.size + 1 + 1 + 1 + 1; omega), HE9.out.but bu9 (fun b hb => by cases hb; show ¬ ge = w.heap.size + 1 + 1 + 1 + 1; omega), ?_, HI.out.m.but b9 (by show ¬ (w.heap.size + 1 + 1 = g ∨ w.heap.size + 1 + 1 = ge ∨ w.heap.size + 1 + 1 = w.heap.size + 1 + 1 + 1 + 1); omega), (b9.cell _ _ (cell_lt9N HI.out.l) (by show ¬ (w.heap.size + 1 + 1 + 1 = g ∨ w.heap.size + 1 + 1 + 1 = ge ∨ w.heap.size + 1 + 1 + 1 = w.heap.size + 1 + 1 + 1 + 1); omega)).trans HI.out.l, (b9.froz _ _ (cell_lt9N HI.out.l) (by show ¬ (w.heap.size + 1 + 1 + 1 = g ∨ w.heap.size + 1 + 1 + 1 = ge ∨ w.heap.size + 1 + 1 + 1 = w.heap.size + 1 + 1 + 1 + 1); omega)).trans HI.out.lf, b9.bl HI.out.bl (fun i h => by have h' : i = g ∨ i = ge ∨ i = w.heap.size + 1 + 1 + 1 + 1 := h; omega), Nat.le_trans HI.out.sz b9.size⟩
   show Box W9 _ (bO kdN T.a x.2)
   rw [← HNB.out]
   exact kf9
  case done =>
   rintro Dm zs U hD hS hI hKD
   subst hS
   obtain ⟨T, hT⟩ : ∃ T, T = runO kdN n s h r n := ⟨_, rfl⟩
   rw [show foldO kdN n ⟨s, fun _ => wholeN 0, r⟩ (zsBN n (wO kdN n s h) n) = T from by rw [hT]; exact foldO_run kdN n s h r n] at hI
   have HI := hideP hI
   have HKD := hideP hKD
   have HTR := hideP hT
   obtain ⟨ta, hta⟩ : ∃ y, y = T.a := ⟨_, rfl⟩
   have G0 : GdON w n N g c1' ge ta U := ⟨hI.m, hI.l, hI.lf, by rw [hta]; exact hI.a⟩
   have HTA := hideP hta
   clear hT hta hI hKD
   go_wp2_with fail
   refine (wpIn_wide (n := 8)).1 (region_r fm (RelGN w n N g c1' ge ta) [some 50, some 51, some 52, none, none, none] (by kernel_rfl) (by rfl) (RelGN.refl0 _) (fun h k => h.trans k)
    (fun j v u => match j with | 0 => v = mV n n (some ⟨g, 0, none⟩) N c1' | 1 => v = .slice (some ⟨ge, 0, none⟩) n n | 2 => v = enV ta | 3 => True | 4 => True | 5 => True | _ => False)
    (fun j v u u' _ _ h => h) ?step ?fin)
   case step =>
    intro j o act u ho hsz hu hfr hin hnon
    have hj : j < 6 := (Array.getElem?_eq_some_iff.1 ho).1
    obtain ⟨⟨m0, m1, m2, x0, x1, x2, _⟩, l0, lf0, ⟨d0, d1, d2, d3, g0, g1, g2, g3, _⟩⟩ := hu.2 G0
    rcases (by omega : j = 0 ∨ j = 1 ∨ j = 2 ∨ j = 3 ∨ j = 4 ∨ j = 5) with rfl | rfl | rfl | rfl | rfl | rfl
    ·obtain rfl := Option.some.inj (opYJ ho)
     have i6 : act.eval (.tmp (6 : Nat)) = .pointer (some ⟨w.heap.size + 1 + 1, 0, none⟩) := hfr 6 (by decide)
     exact plain_wp (by intro c h; cases h) (fun _ _ => trivial) (by simp only [execOp, i6, evalC, evalF, evalG]; simp [go_sem, m0, m1, m2]) ⟨_, rfl, rfl, RelGN.refl u⟩
    ·obtain rfl := Option.some.inj (opYJ ho)
     have i7 : act.eval (.tmp (7 : Nat)) = .pointer (some ⟨w.heap.size + 1 + 1 + 1, 0, none⟩) := hfr 7 (by decide)
     exact plain_wp (by intro c h; cases h) (fun _ _ => trivial) (by simp only [execOp, i7, evalC, evalF, evalG]; simp [go_sem, l0]) ⟨_, rfl, rfl, RelGN.refl u⟩
    ·obtain rfl := Option.some.inj (opYJ ho)
     have i8 : act.eval (.tmp (8 : Nat)) = .pointer (some ⟨w.heap.size + 1 + 1 + 1 + 1, 0, none⟩) := hfr 8 (by decide)
     exact plain_wp (by intro c h; cases h) (fun _ _ => trivial) (by simp only [execOp, i8, evalC, evalF, evalG]; simp [go_sem, d0, d1, d2, d3]) ⟨_, rfl, rfl, RelGN.refl u⟩
    ·obtain rfl := Option.some.inj (opYJ ho)
     have i6 : act.eval (.tmp (6 : Nat)) = .pointer (some ⟨w.heap.size + 1 + 1, 0, none⟩) := hfr 6 (by decide)
     have i50 : (act.eval (.tmp (50 : Nat))) = mV n n (some ⟨g, 0, none⟩) N c1' := hin ⟨0, .data⟩ (by simp) rfl 50 rfl
     exact skip_wp (by intro c h; cases h) (fun _ _ => trivial) (by simp only [execOp, i6, i50]; simp [go_sem, m0, m1, m2, x0, x1, x2]) ⟨_, rfl, trivial, RelGN.m u⟩
    ·obtain rfl := Option.some.inj (opYJ ho)
     have i7 : act.eval (.tmp (7 : Nat)) = .pointer (some ⟨w.heap.size + 1 + 1 + 1, 0, none⟩) := hfr 7 (by decide)
     have i51 : (act.eval (.tmp (51 : Nat))) = .slice (some ⟨ge, 0, none⟩) n n := hin ⟨1, .data⟩ (by simp) rfl 51 rfl
     exact skip_wp (by intro c h; cases h) (fun _ _ => trivial) (by simp only [execOp, i7, i51]; simp [go_sem, l0, lf0]) ⟨_, rfl, trivial, RelGN.l u⟩
    ·obtain rfl := Option.some.inj (opYJ ho)
     have i8 : act.eval (.tmp (8 : Nat)) = .pointer (some ⟨w.heap.size + 1 + 1 + 1 + 1, 0, none⟩) := hfr 8 (by decide)
     have i52 : (act.eval (.tmp (52 : Nat))) = enV ta := hin ⟨2, .data⟩ (by simp) rfl 52 rfl
     exact skip_wp (by intro c h; cases h) (fun _ _ => trivial) (by simp only [execOp, i8, i52]; simp [go_sem, d0, d1, d2, d3, g0, g1, g2, g3]) ⟨_, rfl, trivial, RelGN.a u⟩
   case fin =>
    intro vs u hu hin hnon
    have a0 := hin 0 50 rfl
    have a1 := hin 1 51 rfl
    have a2 := hin 2 52 rfl
    have a3 := hnon 3 rfl
    have a4 := hnon 4 rfl
    have a5 := hnon 5 rfl
    simp only [putL, Act.put, List.setIfInBounds_toArray, List.set_cons_zero, List.set_cons_succ, Nat.zero_add, Nat.reduceAdd, if_true, reduceIte] at a0 a1 a2 a3 a4 a5 ⊢
    simp only [a0, a1, a2]
    obtain ⟨W9, rfl⟩ : ∃ W9, W9 = u := ⟨_, rfl⟩
    have bg : But (fun b => b = w.heap.size + 1 + 1 ∨ b = w.heap.size + 1 + 1 + 1 ∨ b = w.heap.size + 1 + 1 + 1 + 1) U W9 := hu.1
    have G9 := hu.2 G0
    have hK9 : W9.heap[Dm]? = some (.deferred (some [])) := (bg.block Dm (Array.getElem?_eq_some_iff.1 HKD.out).1 (by show ¬ (Dm = w.heap.size + 1 + 1 ∨ Dm = w.heap.size + 1 + 1 + 1 ∨ Dm = w.heap.size + 1 + 1 + 1 + 1); omega)).trans HKD.out
    have HS9 := hideP (HI.out.s.but bg (fun b hb => by cases hb; show ¬ (g = w.heap.size + 1 + 1 ∨ g = w.heap.size + 1 + 1 + 1 ∨ g = w.heap.size + 1 + 1 + 1 + 1); omega))
    have HE9 := hideP (HI.out.e.but bg (fun b hb => by cases hb; show ¬ (ge = w.heap.size + 1 + 1 ∨ ge = w.heap.size + 1 + 1 + 1 ∨ ge = w.heap.size + 1 + 1 + 1 + 1); omega))
    have B9 : Bl w W9 := bg.bl HI.out.bl (fun i h => by have h' : i = w.heap.size + 1 + 1 ∨ i = w.heap.size + 1 + 1 + 1 ∨ i = w.heap.size + 1 + 1 + 1 + 1 := h; omega)
    clear a0 a1 a2 a3 a4 a5 hin hnon
    go_wp2
    refine ⟨by simp, .inl ⟨_, _, rfl, run_takeDeferred hK9, ?_⟩⟩
    have gk := grownBy_putObj' W9 Dm (.deferred none)
    have gr : ∀ r, some Dm = some r → ∃ o : Obj, W9.heap[r]? = some o ∧ o.isCells = false := fun r e => by cases e; exact ⟨_, hK9, rfl⟩
    have ne1 : mk n n T.s ≠ [] := fun e => by have := congrArg List.length e; rw [mk_len] at this; have h2 : 0 < n * n := Nat.mul_pos n1 n1; simp at this; omega
    have ne2 : linJ n T.e ≠ [] := fun e => by have := congrArg List.length e; rw [linJ_len] at this; simp at this; omega
    have d0 := cell_kept G9.m.c0 gk gr
    have d1 := cell_kept G9.m.c1 gk gr
    have d2 := cell_kept G9.m.c2 gk gr
    have e0 := cell_kept G9.l gk gr
    have q0 := cell_kept G9.a.c0 gk gr
    have q1 := cell_kept G9.a.c1 gk gr
    have q2 := cell_kept G9.a.c2 gk gr
    have q3 := cell_kept G9.a.c3 gk gr
    refine ⟨.tuple #[mV n n (some ⟨g, 0, none⟩) N c1', .slice (some ⟨ge, 0, none⟩) n n, enV ta], ?_, ⟨g, c1', ge, n, by rw [← HTR.out, ← HTA.out], ⟨?_, ?_⟩, ?_⟩⟩
    ·simp [results, Tryz.f74, go_sem, d0, d1, d2, e0, q0, q1, q2, q3]
    ·rw [← HTR.out]; exact HS9.out.own cellsN_len (by decide) ne1 gk gr
    ·rw [← HTR.out]; exact HE9.out.own cellsN_len (by decide) ne2 gk gr
    ·exact Below.trans B9 (belowK_b (w := w) (Nat.le_refl _) W9 Dm _ _ (by omega) hK9 rfl rfl)
end Go.Proofs.YtljmggemdkfbiaaGreat
namespace Go.Proofs.YtljmggemdkfbiaaGreat
open Go.RowKit
set_option linter.unusedSimpArgs false
set_option linter.unusedVariables false
set_option maxHeartbeats 1000000 in
theorem rShares0N (v : Value) (xs : List En) (by_ : En) (w : World) (h : Rw 4 cellsN w v xs) (hl : xs.length ≤ 1000000) :
  Calls Tryz.prog 75 #[v, enV by_] w fun e w' => ∃ u, e = .returned u ∧ Rw 4 cellsN w' u (xs.map fun x => divE x by_) ∧ Fresh w.heap.size u ∧ Bl w w' := by
 have iv := Tryz.mDivN
 obtain ⟨i0, hi, hz0, hz1, hz2⟩ := info_parts Tryz.info_N
 have x0 := Box.new w by_ 52
 rcases h with ⟨rfl, rfl⟩ | ⟨b, o, cap, rfl, hc, hb, hx⟩
 ·go_enter Tryz.func75, Tryz.ntmps75
  go_wp2_with (at_make; refine wpList_make_own _ rfl _ _ 46 rfl w.heap.size 52 i0 (.agg #[.int .i64 0, .int .i64 0, .int .i64 0, .bool false]) 4 Tryz.underlying46 hi hz0 hz1 .i64 .i64 _ 0 rfl rfl (by simp) (by rw [hz2]; omega) (by unfold maxLen; omega) (by simp) ?_; intro w0 hown0 hgrow0)
  rw [World.size_alloc] at hown0
  have hB0 : Bl w w0 := Below.grown (Below.alloc (Bl.refl w) (Nat.le_refl _) _) hgrow0 (by simp) (fun k e => by cases e)
  go_loopw [5, 13] (fun v i wr => i = .int .i64 0 ∧ wr.ownsRow w.heap.size 52 4 v 0 [] ∧ Bl w wr) (fun _ _ _ => 0)
  case atStart => exact ⟨rfl, hown0, hB0⟩
  case round =>
   obtain ⟨rfl, hown, hB⟩ := hrel
   go_wp2
   go_ret
   exact ⟨_, rfl, Rw.of_own cellsN_len (xs := []) hown, fresh_ownN hown (Nat.le_refl _), hB⟩
 ·have HX := hideP hx
  clear hx
  go_enter Tryz.func75, Tryz.ntmps75
  go_wp2_with (at_make; refine wpList_make_own _ rfl _ _ 46 rfl (w.heap.size + 1) 52 i0 (.agg #[.int .i64 0, .int .i64 0, .int .i64 0, .bool false]) 4 Tryz.underlying46 hi hz0 hz1 .i64 .i64 _ xs.length rfl rfl (by simp) (by rw [hz2]; omega) (by unfold maxLen; omega) (by simp) ?_; intro w0 hown0 hgrow0)
  rw [World.size_alloc] at hown0
  have hB1 : Bl (w.alloc (.cells #[.int .i64 by_.v, .int .i64 by_.l, .int .i64 by_.h, .bool by_.bad] 52)) w0 := Below.grown (Bl.refl _) hgrow0 (Nat.le_refl _) (fun k e => by cases e)
  have hB0 : Bl w w0 := ((Bl.refl w).alloc _).trans hB1
  go_loopw [5, 13] (fun v i wr => ∃ k : Nat, i = .int .i64 k ∧ k ≤ xs.length ∧ Box wr w.heap.size by_ ∧ wr.ownsRow (w.heap.size + 1) 52 4 v ((xs.take k).map fun x => divE x by_).length (((xs.take k).map fun x => divE x by_).flatMap cellsN) ∧ Bl w wr) (fun _ i _ => xs.length - (intOf i).toNat)
  case atStart => exact ⟨0, rfl, Nat.zero_le _, x0.later hB1, hown0, hB0⟩
  case round =>
   obtain ⟨k, rfl, hk, bx, hown, hB⟩ := hrel
   by_cases hlt : k < xs.length
   ·obtain ⟨x, hx⟩ : ∃ x, xs[k]? = some x := ⟨_, List.getElem?_eq_getElem hlt⟩
    have CX : ∀ j u, (cellsN x)[j]? = some u → wr.cell? ⟨b, o + k * 4 + j, none⟩ = some u := fun j u hu => (bl_cell hB _ _ hb).trans (HX.out k x hx j u hu)
    have y0 : wr.cell? ⟨b, o + k * 4, none⟩ = some (.int .i64 x.v) := CX 0 _ rfl
    have y1 : wr.cell? ⟨b, o + k * 4 + 1, none⟩ = some (.int .i64 x.l) := CX 1 _ rfl
    have y2 : wr.cell? ⟨b, o + k * 4 + 2, none⟩ = some (.int .i64 x.h) := CX 2 _ rfl
    have y3 : wr.cell? ⟨b, o + k * 4 + 3, none⟩ = some (.bool x.bad) := CX 3 _ rfl
    clear CX
    obtain ⟨c0, c1, c2, c3, f0, f1, f2, f3, lt⟩ := id bx
    have HT := hideP (show (xs.take (k + 1)).map (fun x => divE x by_) = (xs.take k).map (fun x => divE x by_) ++ [divE x by_] by rw [List.take_add_one, hx]; simp)
    have HK := hideP (show ((xs.take k).map fun x => divE x by_).length = k by simp; omega)
    generalize hys : (xs.take k).map (fun x => divE x by_) = ys at *
    clear hys
    go_wp2_with fail
    refine (ediv_any _ _ _).mono ?_
    rintro e w2 ⟨rfl, h2⟩
    have bl2 : Bl wr w2 := ((Bl.refl _).alloc _).trans h2
    generalize divE x by_ = r at *
    clear y0 y1 y2 y3 c0 c1 c2 c3
    replace hown := own_blN hown bl2
    replace hB := hB.trans bl2
    have bx2 := bx.later bl2
    have hkk := HK.out
    go_wp2_with (at_builtin; refine wpList_append_own _ rfl _ _ 46 rfl (w.heap.size + 1) 52 i0 (.agg #[.int .i64 0, .int .i64 0, .int .i64 0, .bool false]) 4 32 Tryz.underlying46 hi hz0 hz1 hz2 rfl (by decide) _ _ _ rfl (hown.alloc _) ⟨_, 0, none⟩ 1 1 (cellsN r) rfl rfl (newN_cells _ _ _) (oneN_cells _) (by unfold maxLen; omega) (by omega) (by have := bx2.lt; simp; omega) ?_; intro v' w1 hown' hgrow _)
    have R := ownN_step' (n₀ := w.heap.size + 1) hB (by omega) hown hown' hgrow
    have bx3 := bx2.grown ((Bl.refl _).alloc _) hown hgrow (by omega)
    clear hown hown' hgrow
    go_wp2
    go_roundw
    case rel => exact ⟨k + 1, by simp, hlt, bx3, by rw [HT.out]; exact R.2, R.1⟩
    case measure => simp [intOf]; omega
   ·have hk' : k = xs.length := by omega
    subst hk'
    rw [List.take_length] at hown
    have R := hideP (Rw.of_own cellsN_len hown)
    have FR := hideP (fresh_ownN hown (Nat.le_succ _))
    clear hown
    go_wp2
    go_ret
    exact ⟨_, rfl, R.out, FR.out, hB⟩
theorem rSharesN (n : Nat) (p : Option Addr) (cap : Nat) (u : Nat → En) (a : En) (w : World) (h : Rw 4 cellsN w (.slice p n cap) (linJ n u)) (hl : n ≤ 1000000) :
  Calls Tryz.prog 75 #[.slice p n cap, enV a] w fun e w' => ∃ q c, e = .returned (.slice q n c) ∧ (Rw 4 cellsN w' (.slice q n c) (linJ n (fun i => divE (u i) a)) ∧ Fresh w.heap.size (.slice q n c)) ∧ Bl w w' :=
 (rShares0N _ _ a w h (by rw [linJ_len]; exact hl)).mono fun e w' ⟨v, he, hr, hf, hb⟩ => by
  rw [linJ_map] at hr
  obtain ⟨q, c, rfl, _, _⟩ := hr.cut
  rw [linJ_len] at hr hf he
  exact ⟨q, c, he, ⟨hr, hf⟩, hb⟩
set_option maxRecDepth 100000 in
set_option maxHeartbeats 8000000 in
theorem rUpdateN (n N : Nat) (px : Option Addr) (cx : Nat) (x : Nat → En) (p : Option Addr) (cap : Nat) (S : Nat → Nat → En) (ph : Option Addr) (ch : Nat) (h : Nat → En) (r z : En) (w : World)
  (hx : Rq 4 cellsN w (.slice px n cx) (linJ n x)) (hP : Mx 4 cellsN w n n p N cap S) (hh : Rq 4 cellsN w (.slice ph n ch) (linJ n h)) (h4 : n ≤ 4) :
  Calls Tryz.prog 36 #[sJ px n cx n n p N cap, .slice ph n ch, enV r, enV z] w fun e w' => ∃ q c p' c', e = .returned (.tuple #[sJ q n c n n p' N c', newsVN (surpJ kdN n x h z) (runO kdN n S h r n).a, .bool true]) ∧ (Rw 4 cellsN w' (.slice q n c) (linJ n fun i => addE (x i) (mulE (divE ((runO kdN n S h r n).e i) (runO kdN n S h r n).a) (surpJ kdN n x h z))) ∧ Mx 4 cellsN w' n n p' N c' (runO kdN n S h r n).s ∧ Fresh w.heap.size (.slice q n c) ∧ Fresh w.heap.size (.slice p' N c')) ∧ Bl w w' := by
 have fm : Tryz.prog.follows .mixedOrders = true := by kernel_rfl
 have egD := enters_of Tryz.func76 (by kernel_rfl) rfl
 have egS := enters_of Tryz.func208 (by kernel_rfl) rfl
 have egC := enters_of Tryz.func78 (by kernel_rfl) rfl
 have egV := enters_of Tryz.func77 (by kernel_rfl) rfl
 have hfit := fitJ_dim hP.1 hP.2.1 h4
 have hn6 : n ≤ 1000000 := by omega
 have hn1 : 1 ≤ n := hP.1.r1
 obtain ⟨T, hT⟩ : ∃ T, T = runO kdN n S h r n := ⟨_, rfl⟩
 obtain ⟨a, ha⟩ : ∃ a, a = T.a := ⟨_, rfl⟩
 obtain ⟨dx, hdx⟩ : ∃ dx, dx = dotN (linJ n h) (linJ n x) := ⟨_, rfl⟩
 obtain ⟨e9, he9⟩ : ∃ e9, e9 = subE z dx := ⟨_, rfl⟩
 have hsur : e9 = surpJ kdN n x h z := by rw [he9, hdx]; rfl
 obtain ⟨kk, hkk⟩ : ∃ kk, kk = fun i => divE (T.e i) a := ⟨_, rfl⟩
 have HUX := hideP (show (fun i => addE (x i) (mulE (divE (T.e i) a) e9)) = fun i => addE (x i) (mulE (kk i) e9) by rw [hkk])
 have DOX0 := hideP (fun (u : World) (h1 : Rq 4 cellsN u (.slice ph n ch) (linJ n h)) (h2 : Rq 4 cellsN u (.slice px n cx) (linJ n x)) => by have := vDotN (.slice ph n ch) (.slice px n cx) (linJ n h) (linJ n x) u h1 h2 (by rw [linJ_len]; exact hn6) (by rw [linJ_len]; exact hn6); rw [← hdx] at this; exact this)
 have SUB := hideP (fun u => by have := esub_any z dx u; rw [← he9] at this; exact this)
 have TAK0 := hideP (fun (u : World) (h1 : Mx 4 cellsN u n n p N cap S) (h2 : Rq 4 cellsN u (.slice ph n ch) (linJ n h)) => by have := rTakenN n N p cap S ph ch h r u h1 h2; rw [← hT, ← ha] at this; exact this)
 rw [← hT, ← ha, ← hsur, HUX.out]
 have HKK := hideP (show linJ n kk = linJ n (fun i => divE (T.e i) a) by rw [hkk])
 clear hT ha hdx he9 hsur hkk
 obtain ⟨W, hW⟩ : ∃ W, W = ((((w.alloc (.cells #[.slice px n cx, .int .i64 n, .int .i64 n, .slice p N cap] 50)).alloc (.cells #[.int .i64 r.v, .int .i64 r.l, .int .i64 r.h, .bool r.bad] 52)).alloc (.cells #[.int .i64 z.v, .int .i64 z.l, .int .i64 z.h, .bool z.bad] 52)).alloc (.cells #[.slice none 0 0, .int .i64 0, .int .i64 0, .slice none 0 0] 50)).alloc (.cells #[.int .i64 0, .int .i64 0, .int .i64 0, .bool false, .int .i64 0, .int .i64 0, .int .i64 0, .bool false] 54) := ⟨_, rfl⟩
 have b0 : Bl w W := by rw [hW]; exact (((((Bl.refl _).alloc _).alloc _).alloc _).alloc _).alloc _
 have s0 : SBox W w.heap.size px n cx n n p N cap := by rw [hW]; exact (SBox.new w _ _ _ _ _ _ _ _ _).later (((((Bl.refl _).alloc _).alloc _).alloc _).alloc _)
 have r0 : Box W (w.heap.size + 1) r := by rw [hW]; have := Box.new (w.alloc (.cells #[.slice px n cx, .int .i64 n, .int .i64 n, .slice p N cap] 50)) r 52; simp only [World.size_alloc] at this; exact this.later ((((Bl.refl _).alloc _).alloc _).alloc _)
 have z0 : Box W (w.heap.size + 1 + 1) z := by rw [hW]; have := Box.new ((w.alloc (.cells #[.slice px n cx, .int .i64 n, .int .i64 n, .slice p N cap] 50)).alloc (.cells #[.int .i64 r.v, .int .i64 r.l, .int .i64 r.h, .bool r.bad] 52)) z 52; simp only [World.size_alloc] at this; exact this.later (((Bl.refl _).alloc _).alloc _)
 have sz0 : SBox W (w.heap.size + 1 + 1 + 1) none 0 0 0 0 none 0 0 := by rw [hW]; have := SBox.new (((w.alloc (.cells #[.slice px n cx, .int .i64 n, .int .i64 n, .slice p N cap] 50)).alloc (.cells #[.int .i64 r.v, .int .i64 r.l, .int .i64 r.h, .bool r.bad] 52)).alloc (.cells #[.int .i64 z.v, .int .i64 z.l, .int .i64 z.h, .bool z.bad] 52)) none 0 0 0 0 none 0 0 50; simp only [World.size_alloc] at this; exact this.later ((Bl.refl _).alloc _)
 have nz0 : NBoxN W (w.heap.size + 1 + 1 + 1 + 1) zeroE zeroE := by rw [hW]; have := NBoxN.new ((((w.alloc (.cells #[.slice px n cx, .int .i64 n, .int .i64 n, .slice p N cap] 50)).alloc (.cells #[.int .i64 r.v, .int .i64 r.l, .int .i64 r.h, .bool r.bad] 52)).alloc (.cells #[.int .i64 z.v, .int .i64 z.l, .int .i64 z.h, .bool z.bad] 52)).alloc (.cells #[.slice none 0 0, .int .i64 0, .int .i64 0, .slice none 0 0] 50)) zeroE zeroE 54; simp only [World.size_alloc] at this; exact this
 have hs : W.heap.size = w.heap.size + 1 + 1 + 1 + 1 + 1 := by rw [hW]; simp
 have HX := hideP hx
 have HD := hideP hP.1
 have HN := hideP hP.2.1
 have HP := hideP hP
 have HH := hideP hh
 have HW := hideP hW
 obtain ⟨d0, d1, d2, d3, _, _, _, _, _⟩ := id s0
 rw [hW] at d0 d1 d2 d3
 clear hW hx hP hh
 go_enter Tryz.func36, Tryz.ntmps36
 go_wp2_with fail
 try simp only [World.size_alloc]
 rw [← HW.out]
 refine (rRightN _ _ _ _ _ _ _ _ _).mono ?_
 rintro e w1 ⟨rfl, h1⟩
 rw [hfit]
 clear d0 d1 d2 d3
 obtain ⟨d0, d1, d2, d3, _, _, _, _, _⟩ := s0.later h1
 obtain ⟨c0, c1, c2, c3, f0, f1, f2, f3, _⟩ := r0.later h1
 go_wp2_with fail
 refine (TAK0.out w1 (HP.out.later (b0.trans h1)) (HH.out.later (b0.trans h1))).mono ?_
 rintro e w3 ⟨g, gc, ge, gce, rfl, ⟨hZs, hZe⟩, h3⟩
 clear d0 d1 d2 d3 c0 c1 c2 c3 f0 f1 f2 f3 TAK0
 obtain ⟨W3, hW3⟩ : ∃ W3, W3 = (w3.alloc (.cells #[.int .i64 n, .int .i64 n, .slice (some ⟨g, 0, none⟩) N gc] 48)).alloc (.cells #[.int .i64 a.v, .int .i64 a.l, .int .i64 a.h, .bool a.bad] 52) := ⟨_, rfl⟩
 have b3' : Bl w3 W3 := by rw [hW3]; exact ((Bl.refl _).alloc _).alloc _
 have b3W : Bl W W3 := h1.trans (h3.trans b3')
 have B3 : Bl w W3 := b0.trans b3W
 have hs3 : W3.heap.size = w3.heap.size + 1 + 1 := by rw [hW3]; simp
 have hs31 : w.heap.size + 1 + 1 + 1 + 1 + 1 ≤ w3.heap.size := by have := (h1.trans h3).size; omega
 have k11' : MBox W3 w3.heap.size n n (some ⟨g, 0, none⟩) N gc := by rw [hW3]; exact (MBox.new w3 _ _ _ _ _ _).later ((Bl.refl _).alloc _)
 have ka' : Box W3 (w3.heap.size + 1) a := by rw [hW3]; have := Box.new (w3.alloc (.cells #[.int .i64 n, .int .i64 n, .slice (some ⟨g, 0, none⟩) N gc] 48)) a 52; simp only [World.size_alloc] at this; exact this
 have HZS := hideP ((hZs.later b3'))
 have gfr : ∀ b, (Value.slice (some ⟨g, 0, none⟩) N gc).ownBlock = some b → w1.heap.size ≤ b := hZs.fresh
 have SH := hideP (rSharesN n (some ⟨ge, 0, none⟩) gce T.e a W3 (hZe.later b3').rw hn6)
 obtain ⟨d0, d1, d2, d3, g0, g1, g2, g3, _⟩ := id ka'
 have HW3 := hideP hW3
 rw [hW3] at d0 d1 d2 d3
 clear hW3 hZs hZe
 go_wp2_with fail
 rw [← HW3.out]
 refine SH.out.mono ?_
 rintro e w5 ⟨pk, ck, rfl, ⟨hRk, _⟩, h5⟩
 have HK5 := hideP (show Rw 4 cellsN w5 (.slice pk n ck) (linJ n kk) from by rw [HKK.out]; exact hRk)
 have B5 := B3.trans h5
 have b35 : Bl W3 w5 := h5
 have kz := z0.later (b3W.trans h5)
 have ks := s0.later (b3W.trans h5)
 have hs5 := b35.size
 have DOX := hideP (fun u (hu : Bl w5 u) => DOX0.out u (HH.out.later (B5.trans hu)) (HX.out.later (B5.trans hu)))
 obtain ⟨b11, hb11⟩ : ∃ b11, b11 = w3.heap.size := ⟨_, rfl⟩
 obtain ⟨b13, hb13⟩ : ∃ b13, b13 = w3.heap.size + 1 := ⟨_, rfl⟩
 have k11 : MBox W3 b11 n n (some ⟨g, 0, none⟩) N gc := by rw [hb11]; exact k11'
 have ka : Box W3 b13 a := by rw [hb13]; exact ka'
 clear d0 d1 d2 d3 g0 g1 g2 g3 hRk SH DOX0 k11' ka'
 go_wp2_with fail
 try simp only [← hb13]
 try simp only [← hb11]
 refine (wpIn_wide (n := 8)).1 (region_q fm [some 42, some 43, some 44, some 45, some 46, some 47, some 48, some 15, none] (fun _ => false) 8 (by kernel_rfl) (by rfl)
  (fun j v u => match j with | 0 => v = enV z | 1 => v = .iface 52 (enV z) | 2 => v = .slice ph n ch | 3 => v = .pointer (some ⟨w.heap.size, 0, none⟩) | 4 => v = .slice px n cx | 5 => v = enV dx | 6 => v = enV e9 | 7 => ∃ b, v = .pointer (some ⟨b, 0, none⟩) ∧ w5.heap.size ≤ b ∧ Box u b zeroE | _ => False)
  (by
    intro j v u u' hb h
    split at h <;> first | exact h | (obtain ⟨b, e, h1, h2⟩ := h; exact ⟨b, e, h1, h2.later hb⟩) | (obtain ⟨q, c, e, h1⟩ := h; exact ⟨q, c, e, h1.later hb⟩)) (fun vs u0 u => ∃ b, vs 7 = .pointer (some ⟨b, 0, none⟩) ∧ w5.heap.size ≤ b ∧ Box u b e9 ∧ Bl w5 u) ?step ?still ?store ?fin)
 case step =>
  intro j o t act u ho hdt hpu hsz hu hfr hin
  have hj : j < 9 := (Array.getElem?_eq_some_iff.1 ho).1
  obtain ⟨c0, c1, c2, c3, f0, f1, f2, f3, ltr⟩ := kz.later hu
  obtain ⟨y0, y1, y2, y3, _, _, _, _, _⟩ := ks.later hu
  rcases (by omega : j = 0 ∨ j = 1 ∨ j = 2 ∨ j = 3 ∨ j = 4 ∨ j = 5 ∨ j = 6 ∨ j = 7 ∨ j = 8) with rfl | rfl | rfl | rfl | rfl | rfl | rfl | rfl | rfl
  ·obtain rfl := Option.some.inj (opYJ ho)
   obtain rfl := Option.some.inj hdt
   have i7 : act.eval (.tmp (7 : Nat)) = .pointer (some ⟨w.heap.size + 1 + 1, 0, none⟩) := hfr 7 (by decide)
   exact plain_wp (by intro c h; cases h) (fun _ _ => trivial) (by simp only [execOp, i7, evalC, evalF, evalG]; simp [go_sem, c0, c1, c2, c3]) ⟨_, rfl, rfl, Bl.refl _⟩
  ·obtain rfl := Option.some.inj (opYJ ho)
   obtain rfl := Option.some.inj hdt
   have i42 : (act.eval (.tmp (42 : Nat))) = enV z := hin ⟨0, .data⟩ (by simp) rfl 42 rfl
   exact plain_wp (by intro c h; cases h) (fun _ _ => trivial) (by simp only [execOp, i42, evalC, evalF, evalG]; simp [go_sem]) ⟨_, rfl, rfl, Bl.refl _⟩
  ·obtain rfl := Option.some.inj (opYJ ho)
   obtain rfl := Option.some.inj hdt
   have i1 : act.eval (.tmp (1 : Nat)) = .slice ph n ch := hfr 1 (by decide)
   exact plain_wp (by intro c h; cases h) (fun _ _ => trivial) (by simp only [execOp, i1, evalC, evalF, evalG]; simp [go_sem, y0]) ⟨_, rfl, rfl, Bl.refl _⟩
  ·obtain rfl := Option.some.inj (opYJ ho)
   obtain rfl := Option.some.inj hdt
   have i4 : act.eval (.tmp (4 : Nat)) = .pointer (some ⟨w.heap.size, 0, none⟩) := hfr 4 (by decide)
   exact plain_wp (by intro c h; cases h) (fun _ _ => trivial) (by simp only [execOp, i4, evalC, evalF, evalG]; simp [go_sem, y0, y1, y2, y3]) ⟨_, rfl, rfl, Bl.refl _⟩
  ·obtain rfl := Option.some.inj (opYJ ho)
   obtain rfl := Option.some.inj hdt
   have i45 : (act.eval (.tmp (45 : Nat))) = .pointer (some ⟨w.heap.size, 0, none⟩) := hin ⟨3, .data⟩ (by simp) rfl 45 rfl
   exact plain_wp (by intro c h; cases h) (fun _ _ => trivial) (by simp only [execOp, i45, evalC, evalF, evalG]; simp [go_sem, y0, y1, y2, y3]) ⟨_, rfl, rfl, Bl.refl _⟩
  ·obtain rfl := Option.some.inj (opYJ ho)
   obtain rfl := Option.some.inj hdt
   have i44 : (act.eval (.tmp (44 : Nat))) = .slice ph n ch := hin ⟨2, .data⟩ (by simp) rfl 44 rfl
   have i46 : (act.eval (.tmp (46 : Nat))) = .slice px n cx := hin ⟨4, .data⟩ (by simp) rfl 46 rfl
   refine enter_wp 76 #[.slice ph n ch, .slice px n cx] (by intro c h; cases h) (fun _ _ => trivial) (by simp only [execOp, evalC, evalF, evalG, resolve, i44, i46, List.map_toArray, List.map_cons, List.map_nil]; simp [invoke, egD, Result.andThen, go_sem]) (by intro h; cases h) (callsIn_wide.2 (DOX.out u hu)) ?_
   rintro e w' ⟨rfl, hb⟩
   exact ⟨_, rfl, _, rfl, rfl, hb⟩
  ·obtain rfl := Option.some.inj (opYJ ho)
   obtain rfl := Option.some.inj hdt
   have i43 : (act.eval (.tmp (43 : Nat))) = .iface 52 (enV z) := hin ⟨1, .data⟩ (by simp) rfl 43 rfl
   have i47 : (act.eval (.tmp (47 : Nat))) = enV dx := hin ⟨5, .data⟩ (by simp) rfl 47 rfl
   have iv := Tryz.mSubN
   refine enter_wp 208 #[enV z, enV dx] (by intro c h; cases h) (fun _ _ => trivial) (by simp only [execOp, evalC, evalF, evalG, resolve, i43, i47, List.map_toArray, List.map_cons, List.map_nil]; simp [invoke, iv, egS, Result.andThen, go_sem]) (by intro h; cases h) (callsIn_wide.2 (SUB.out u)) ?_
   rintro e w' ⟨rfl, hb⟩
   exact ⟨_, rfl, _, rfl, rfl, hb⟩
  ·obtain rfl := Option.some.inj (opYJ ho)
   obtain rfl := Option.some.inj hdt
   exact plain_wp (by intro c h; cases h) (fun _ _ => trivial) (w' := u.alloc (.cells #[.int .i64 0, .int .i64 0, .int .i64 0, .bool false] 52)) (v := .pointer (some ⟨u.heap.size, 0, none⟩)) (by simp only [execOp]; simp [go_sem]) ⟨_, rfl, ⟨u.heap.size, rfl, hu.size, Box.new u zeroE _⟩, (Bl.refl _).alloc _⟩
  ·obtain rfl := Option.some.inj (opYJ ho)
   cases hdt
 case still =>
  intro j o t act u0 u ho hdt hpu
  cases hpu
 case store =>
  intro o act u vs ho hsz hu hfr hin
  obtain rfl := Option.some.inj (opYJ ho)
  obtain ⟨i15, k15⟩ : act.eval (.tmp (15 : Nat)) = vs 7 ∧ (∃ b, (vs 7) = .pointer (some ⟨b, 0, none⟩) ∧ w5.heap.size ≤ b ∧ Box u b zeroE) := hin 7 15 rfl rfl
  obtain ⟨i48, k48⟩ : act.eval (.tmp (48 : Nat)) = vs 6 ∧ ((vs 6) = enV e9) := hin 6 48 rfl rfl
  obtain ⟨b, e1, hb, bx⟩ := k15
  rw [e1] at i15
  replace i48 := i48.trans k48
  obtain ⟨c0, c1, c2, c3, f0, f1, f2, f3, ltb⟩ := id bx
  exact skip_wp (by intro c h; cases h) (fun _ _ => trivial) (by simp only [execOp, i15, i48]; simp [go_sem, zeroE, c0, c1, c2, c3, f0, f1, f2, f3]) ⟨rfl, b, e1, hb, bx.fill _, Bl.set4 hu hb _ _ _ _⟩
 case fin =>
  intro vs vb u0 u hu hin hps
  have a0 := hin 0 42 rfl
  have a1 := hin 1 43 rfl
  have a2 := hin 2 44 rfl
  have a3 := hin 3 45 rfl
  have a4 := hin 4 46 rfl
  have a5 := hin 5 47 rfl
  have a6 := hin 6 48 rfl
  have a7 := hin 7 15 rfl
  simp only [putL, Act.put, List.setIfInBounds_toArray, List.set_cons_zero, List.set_cons_succ, Nat.zero_add, Nat.reduceAdd, Nat.reduceBEq, Bool.or_false, Bool.or_true, Bool.false_or, Bool.true_or, Bool.false_eq_true, if_false, if_true, reduceIte, Nat.reduceEqDiff, beq_self_eq_true, Bool.or_self] at a0 a1 a2 a3 a4 a5 a6 a7 ⊢
  rw [if_pos (by decide)] at hps
  simp only [a0, a1, a2, a3, a4, a5, a6]
  obtain ⟨b15, e15, hb15, ke, hbu⟩ := hps
  simp only [e15]
  obtain ⟨w6, rfl⟩ : ∃ w6, w6 = u := ⟨_, rfl⟩
  clear a0 a1 a2 a3 a4 a5 a6 hu hin
  have B6 := B5.trans hbu
  have b36 := b35.trans hbu
  have ks6 := ks.later hbu
  have HK := hideP (HK5.out.later hbu)
  have hs6 := hbu.size
  clear DOX SUB kz ks
  go_wp2_with fail
  refine (wpIn_wide (n := 8)).1 (region_q fm [some 49, some 50, some 51, some 52, some 53, some 54, some 16] (fun _ => false) 7 (by kernel_rfl) (by rfl)
    (fun j v u => match j with | 0 => v = .pointer (some ⟨w.heap.size, 0, none⟩) | 1 => v = .slice px n cx | 2 => v = .slice pk n ck | 3 => v = enV e9 | 4 => ∃ q c, v = .slice q n c ∧ Rw 4 cellsN u (.slice q n c) (linJ n fun i => mulE (kk i) e9) | 5 => ∃ q c, v = .slice q n c ∧ Rw 4 cellsN u (.slice q n c) (linJ n fun i => addE (x i) (mulE (kk i) e9)) ∧ Fresh w6.heap.size (.slice q n c) | 6 => ∃ q c, v = .slice q n c ∧ Rw 4 cellsN u (.slice q n c) (linJ n fun i => addE (x i) (mulE (kk i) e9)) ∧ Fresh w6.heap.size (.slice q n c) | _ => False)
    (by
      intro j v u u' hb h
      split at h <;> first | exact h | (obtain ⟨q, c, e, h1, h2⟩ := h; exact ⟨q, c, e, h1.later hb, h2⟩) | (obtain ⟨q, c, e, h1⟩ := h; exact ⟨q, c, e, h1.later hb⟩)) (fun vs u0 u => u = u0) ?step ?still ?store ?fin)
  case step =>
   intro j o t act u ho hdt hpu hsz hu hfr hin
   have hj : j < 7 := (Array.getElem?_eq_some_iff.1 ho).1
   obtain ⟨c0, c1, c2, c3, f0, f1, f2, f3, ltr⟩ := ke.later hu
   obtain ⟨y0, y1, y2, y3, _, _, _, _, _⟩ := ks6.later hu
   rcases (by omega : j = 0 ∨ j = 1 ∨ j = 2 ∨ j = 3 ∨ j = 4 ∨ j = 5 ∨ j = 6) with rfl | rfl | rfl | rfl | rfl | rfl | rfl
   ·obtain rfl := Option.some.inj (opYJ ho)
    obtain rfl := Option.some.inj hdt
    have i4 : act.eval (.tmp (4 : Nat)) = .pointer (some ⟨w.heap.size, 0, none⟩) := hfr 4 (by decide)
    exact plain_wp (by intro c h; cases h) (fun _ _ => trivial) (by simp only [execOp, i4, evalC, evalF, evalG]; simp [go_sem, y0, y1, y2, y3]) ⟨_, rfl, rfl, Bl.refl _⟩
   ·obtain rfl := Option.some.inj (opYJ ho)
    obtain rfl := Option.some.inj hdt
    have i49 : (act.eval (.tmp (49 : Nat))) = .pointer (some ⟨w.heap.size, 0, none⟩) := hin ⟨0, .data⟩ (by simp) rfl 49 rfl
    exact plain_wp (by intro c h; cases h) (fun _ _ => trivial) (by simp only [execOp, i49, evalC, evalF, evalG]; simp [go_sem, y0, y1, y2, y3]) ⟨_, rfl, rfl, Bl.refl _⟩
   ·obtain rfl := Option.some.inj (opYJ ho)
    obtain rfl := Option.some.inj hdt
    have i14 : act.eval (.tmp (14 : Nat)) = .slice pk n ck := hfr 14 (by decide)
    exact plain_wp (by intro c h; cases h) (fun _ _ => trivial) (by simp only [execOp, i14, evalC, evalF, evalG]; simp [go_sem, y0]) ⟨_, rfl, rfl, Bl.refl _⟩
   ·obtain rfl := Option.some.inj (opYJ ho)
    obtain rfl := Option.some.inj hdt
    have i15 : act.eval (.tmp (15 : Nat)) = .pointer (some ⟨b15, 0, none⟩) := hfr 15 (by decide)
    exact plain_wp (by intro c h; cases h) (fun _ _ => trivial) (by simp only [execOp, i15, evalC, evalF, evalG]; simp [go_sem, c0, c1, c2, c3]) ⟨_, rfl, rfl, Bl.refl _⟩
   ·obtain rfl := Option.some.inj (opYJ ho)
    obtain rfl := Option.some.inj hdt
    have i51 : (act.eval (.tmp (51 : Nat))) = .slice pk n ck := hin ⟨2, .data⟩ (by simp) rfl 51 rfl
    have i52 : (act.eval (.tmp (52 : Nat))) = enV e9 := hin ⟨3, .data⟩ (by simp) rfl 52 rfl
    refine enter_wp 78 #[.slice pk n ck, enV e9] (by intro c h; cases h) (fun _ _ => trivial) (by simp only [execOp, evalC, evalF, evalG, resolve, i51, i52, List.map_toArray, List.map_cons, List.map_nil]; simp [invoke, egC, Result.andThen, go_sem]) (by intro h; cases h) (callsIn_wide.2 (scale_linN pk n ck kk e9 u (HK.out.later hu) hn6)) ?_
    rintro e w' ⟨q, c, rfl, hR, hb⟩
    exact ⟨_, rfl, _, rfl, ⟨q, c, rfl, hR⟩, hb⟩
   ·obtain rfl := Option.some.inj (opYJ ho)
    obtain rfl := Option.some.inj hdt
    have i50 : (act.eval (.tmp (50 : Nat))) = .slice px n cx := hin ⟨1, .data⟩ (by simp) rfl 50 rfl
    have i53 : ∃ q c, (act.eval (.tmp (53 : Nat))) = .slice q n c ∧ Rw 4 cellsN u (.slice q n c) (linJ n fun i => mulE (kk i) e9) := hin ⟨4, .data⟩ (by simp) rfl 53 rfl
    obtain ⟨q0, c0', e1, hq⟩ := i53
    refine enter_wp 77 #[.slice px n cx, .slice q0 n c0'] (by intro c h; cases h) (fun _ _ => trivial) (by simp only [execOp, evalC, evalF, evalG, resolve, i50, e1, List.map_toArray, List.map_cons, List.map_nil]; simp [invoke, egV, Result.andThen, go_sem]) (by intro h; cases h) (callsIn_wide.2 (add_linN px q0 n cx c0' x _ u (HX.out.later (B6.trans hu)) hq.q hn6)) ?_
    rintro e w' ⟨q, c, rfl, ⟨hR, hF⟩, hb⟩
    exact ⟨_, rfl, _, rfl, ⟨q, c, rfl, hR, fresh_le hF hu.size⟩, hb⟩
   ·obtain rfl := Option.some.inj (opYJ ho)
    obtain rfl := Option.some.inj hdt
    have i54 : ∃ q c, (act.eval (.tmp (54 : Nat))) = .slice q n c ∧ Rw 4 cellsN u (.slice q n c) (linJ n fun i => addE (x i) (mulE (kk i) e9)) ∧ Fresh w6.heap.size (.slice q n c) := hin ⟨5, .data⟩ (by simp) rfl 54 rfl
    obtain ⟨q0, c0', e1, hq⟩ := i54
    exact plain_wp (by intro c h; cases h) (fun _ _ => trivial) (by simp only [execOp, e1, evalC, evalF, evalG]; simp [go_sem]) ⟨_, rfl, ⟨q0, c0', rfl, hq⟩, Bl.refl _⟩
  case still =>
   intro j o t act u0 u ho hdt hpu
   cases hpu
  case store =>
   intro o act u vs ho
   cases ho
  case fin =>
   intro vs vb u0 u hu hin hps
   have a0 := hin 0 49 rfl
   have a1 := hin 1 50 rfl
   have a2 := hin 2 51 rfl
   have a3 := hin 3 52 rfl
   have a4 := hin 4 53 rfl
   have a5 := hin 5 54 rfl
   have a6 := hin 6 16 rfl
   simp only [putL, Act.put, List.setIfInBounds_toArray, List.set_cons_zero, List.set_cons_succ, Nat.zero_add, Nat.reduceAdd, Nat.reduceBEq, Bool.or_false, Bool.or_true, Bool.false_or, Bool.true_or, Bool.false_eq_true, if_false, if_true, reduceIte, Nat.reduceEqDiff, beq_self_eq_true, Bool.or_self] at a0 a1 a2 a3 a4 a5 a6 ⊢
   rw [if_neg (by decide)] at hps
   simp only [a0, a1, a2, a3]
   subst hps
   obtain ⟨px', cx', e6, hRx, hFx⟩ := a6
   simp only [e6]
   obtain ⟨w7, rfl⟩ : ∃ w7, w7 = u := ⟨_, rfl⟩
   have HRX := hideP hRx
   have HFX := hideP hFx
   clear a4 a5 hRx hFx hin
   have B7 := B6.trans hu
   have b37 := b36.trans hu
   have ke7 := ke.later hu
   have ka7 := ka.later b37
   have k7 := k11.later b37
   have HZS7 := hideP (show Mx 4 cellsN w7 n n (some ⟨g, 0, none⟩) N gc T.s from ⟨HD.out, HN.out, ((HZS.out.later b37).rw).q⟩)
   have SZ0 := hideP (sz0.later (b3W.trans b37))
   have NZ0 := hideP (nz0.later (b3W.trans b37))
   have hs7 := hu.size
   have hs36 := b36.size
   have gl := HZS.out.fresh g rfl
   have l15 := ke7.lt
   have l13 := ka7.lt
   have hs1w := h1.size
   clear hu
   go_wp2_with fail
   refine (wpIn_wide (n := 8)).1 (region_r fm (TwoJ (w.heap.size + 1 + 1 + 1) (w.heap.size + 1 + 1 + 1 + 1) (fun y => SBox y (w.heap.size + 1 + 1 + 1) px' n cx' n n (some ⟨g, 0, none⟩) N gc) (fun y => NBoxN y (w.heap.size + 1 + 1 + 1 + 1) e9 a)) [some 55, some 56, some 57, some 58, some 59, some 60, none, none, some 10] (by kernel_rfl) (by rfl) (TwoJ.bl ((Bl.refl _).drew) (by omega) (by omega)) (fun h k => TwoJ.trans (fun x y t b e => t.heap e b.size) (fun x y t b e => t.heap e b.size) h k)
     (fun j v u => match j with | 0 => v = .slice px' n cx' | 1 => v = mV n n (some ⟨g, 0, none⟩) N gc | 2 => v = sJ px' n cx' n n (some ⟨g, 0, none⟩) N gc | 3 => v = enV e9 | 4 => v = enV a | 5 => v = newsVN e9 a | 6 => SBox u (w.heap.size + 1 + 1 + 1) px' n cx' n n (some ⟨g, 0, none⟩) N gc | 7 => NBoxN u (w.heap.size + 1 + 1 + 1 + 1) e9 a | 8 => v = .bool true | _ => False)
     (by
       intro j v u u' hb hr h
       split at h
       ·exact h
       ·exact h
       ·exact h
       ·exact h
       ·exact h
       ·exact h
       ·rcases hr.g8 with e | t
        ·exact h.heap e hr.but.size
        ·exact t
       ·rcases hr.l9 with e | t
        ·exact h.heap e hr.but.size
        ·exact t
       ·exact h
       ·exact h) ?step ?fin)
   case step =>
    intro j o act u ho hsz hu hfr hin hnon
    have hj : j < 9 := (Array.getElem?_eq_some_iff.1 ho).1
    obtain ⟨m0, m1, m2, _, _, _, _⟩ := k7.but hu.but (by show ¬ (_ = _ ∨ _ = _); omega)
    have cE0 : u.cell? ⟨b15, 0, none⟩ = some (.int .i64 e9.v) := (hu.but.cell _ _ (by omega) (by show ¬ (_ = _ ∨ _ = _); omega)).trans ke7.c0
    have cE1 : u.cell? ⟨b15, 1, none⟩ = some (.int .i64 e9.l) := (hu.but.cell _ _ (by omega) (by show ¬ (_ = _ ∨ _ = _); omega)).trans ke7.c1
    have cE2 : u.cell? ⟨b15, 2, none⟩ = some (.int .i64 e9.h) := (hu.but.cell _ _ (by omega) (by show ¬ (_ = _ ∨ _ = _); omega)).trans ke7.c2
    have cE3 : u.cell? ⟨b15, 3, none⟩ = some (.bool e9.bad) := (hu.but.cell _ _ (by omega) (by show ¬ (_ = _ ∨ _ = _); omega)).trans ke7.c3
    have cA0 : u.cell? ⟨b13, 0, none⟩ = some (.int .i64 a.v) := (hu.but.cell _ _ (by omega) (by show ¬ (_ = _ ∨ _ = _); omega)).trans ka7.c0
    have cA1 : u.cell? ⟨b13, 1, none⟩ = some (.int .i64 a.l) := (hu.but.cell _ _ (by omega) (by show ¬ (_ = _ ∨ _ = _); omega)).trans ka7.c1
    have cA2 : u.cell? ⟨b13, 2, none⟩ = some (.int .i64 a.h) := (hu.but.cell _ _ (by omega) (by show ¬ (_ = _ ∨ _ = _); omega)).trans ka7.c2
    have cA3 : u.cell? ⟨b13, 3, none⟩ = some (.bool a.bad) := (hu.but.cell _ _ (by omega) (by show ¬ (_ = _ ∨ _ = _); omega)).trans ka7.c3
    rcases (by omega : j = 0 ∨ j = 1 ∨ j = 2 ∨ j = 3 ∨ j = 4 ∨ j = 5 ∨ j = 6 ∨ j = 7 ∨ j = 8) with rfl | rfl | rfl | rfl | rfl | rfl | rfl | rfl | rfl
    ·obtain rfl := Option.some.inj (opYJ ho)
     have i16 : act.eval (.tmp (16 : Nat)) = .slice px' n cx' := hfr 16 (by decide)
     exact plain_wp (by intro c h; cases h) (fun _ _ => trivial) (by simp only [execOp, i16, evalC, evalF, evalG]; simp [go_sem, hn6]) ⟨_, rfl, rfl, TwoJ.bl (Bl.refl _) (by have := hu.but.size; omega) (by have := hu.but.size; omega)⟩
    ·obtain rfl := Option.some.inj (opYJ ho)
     have i11 : act.eval (.tmp (11 : Nat)) = .pointer (some ⟨b11, 0, none⟩) := hfr 11 (by decide)
     exact plain_wp (by intro c h; cases h) (fun _ _ => trivial) (by simp only [execOp, i11, evalC, evalF, evalG]; simp [go_sem, m0, m1, m2]) ⟨_, rfl, rfl, TwoJ.bl (Bl.refl _) (by have := hu.but.size; omega) (by have := hu.but.size; omega)⟩
    ·obtain rfl := Option.some.inj (opYJ ho)
     have i55 : (act.eval (.tmp (55 : Nat))) = .slice px' n cx' := hin ⟨0, .data⟩ (by simp) rfl 55 rfl
     have i56 : (act.eval (.tmp (56 : Nat))) = mV n n (some ⟨g, 0, none⟩) N gc := hin ⟨1, .data⟩ (by simp) rfl 56 rfl
     exact plain_wp (by intro c h; cases h) (fun _ _ => trivial) (by simp only [execOp, List.map_toArray, List.map_cons, List.map_nil, i55, i56]; simp [Tryz.buildRN, Result.andThen, go_sem]) ⟨_, rfl, rfl, TwoJ.bl (Bl.refl _) (by have := hu.but.size; omega) (by have := hu.but.size; omega)⟩
    ·obtain rfl := Option.some.inj (opYJ ho)
     have i15 : act.eval (.tmp (15 : Nat)) = .pointer (some ⟨b15, 0, none⟩) := hfr 15 (by decide)
     exact plain_wp (by intro c h; cases h) (fun _ _ => trivial) (by simp only [execOp, i15, evalC, evalF, evalG]; simp [go_sem, cE0, cE1, cE2, cE3]) ⟨_, rfl, rfl, TwoJ.bl (Bl.refl _) (by have := hu.but.size; omega) (by have := hu.but.size; omega)⟩
    ·obtain rfl := Option.some.inj (opYJ ho)
     have i13 : act.eval (.tmp (13 : Nat)) = .pointer (some ⟨b13, 0, none⟩) := hfr 13 (by decide)
     exact plain_wp (by intro c h; cases h) (fun _ _ => trivial) (by simp only [execOp, i13, evalC, evalF, evalG]; simp [go_sem, cA0, cA1, cA2, cA3]) ⟨_, rfl, rfl, TwoJ.bl (Bl.refl _) (by have := hu.but.size; omega) (by have := hu.but.size; omega)⟩
    ·obtain rfl := Option.some.inj (opYJ ho)
     have i58 : (act.eval (.tmp (58 : Nat))) = enV e9 := hin ⟨3, .data⟩ (by simp) rfl 58 rfl
     have i59 : (act.eval (.tmp (59 : Nat))) = enV a := hin ⟨4, .data⟩ (by simp) rfl 59 rfl
     exact plain_wp (by intro c h; cases h) (fun _ _ => trivial) (by simp only [execOp, List.map_toArray, List.map_cons, List.map_nil, i58, i59]; simp [Tryz.buildNN, Result.andThen, go_sem]) ⟨_, rfl, rfl, TwoJ.bl (Bl.refl _) (by have := hu.but.size; omega) (by have := hu.but.size; omega)⟩
    ·obtain rfl := Option.some.inj (opYJ ho)
     have i8 : act.eval (.tmp (8 : Nat)) = .pointer (some ⟨w.heap.size + 1 + 1 + 1, 0, none⟩) := hfr 8 (by decide)
     have i57 : (act.eval (.tmp (57 : Nat))) = sJ px' n cx' n n (some ⟨g, 0, none⟩) N gc := hin ⟨2, .data⟩ (by simp) rfl 57 rfl
     obtain ⟨qa, qb, qc, qd, qe, qf, qg, qh, sx⟩ : ∃ px nx cx r c p n cap, SBox u (w.heap.size + 1 + 1 + 1) px nx cx r c p n cap := by
      rcases hu.g8 with e | t
      ·exact ⟨_, _, _, _, _, _, _, _, SZ0.out.heap e hu.but.size⟩
      ·exact ⟨_, _, _, _, _, _, _, _, t⟩
     have SX := hideP sx
     obtain ⟨d0, d1, d2, d3, x0, x1, x2, x3, ltd⟩ := id sx
     exact skip_wp (by intro c h; cases h) (fun _ _ => trivial) (by simp only [execOp, i8, i57]; simp [go_sem, d0, d1, d2, d3, x0, x1, x2, x3]) ⟨undef, rfl, SX.out.fill _ _ _ _ _ _ _ _, ⟨(((but_cell1 (.inl rfl) _ _ _).trans (but_cell1 (.inl rfl) _ _ _)).trans (but_cell1 (.inl rfl) _ _ _)).trans (but_cell1 (.inl rfl) _ _ _), .inr (SX.out.fill _ _ _ _ _ _ _ _), .inl (by rw [heap1 _ (by omega), heap1 _ (by omega), heap1 _ (by omega), heap1 _ (by omega)])⟩⟩
    ·obtain rfl := Option.some.inj (opYJ ho)
     have i9 : act.eval (.tmp (9 : Nat)) = .pointer (some ⟨w.heap.size + 1 + 1 + 1 + 1, 0, none⟩) := hfr 9 (by decide)
     have i60 : (act.eval (.tmp (60 : Nat))) = newsVN e9 a := hin ⟨5, .data⟩ (by simp) rfl 60 rfl
     obtain ⟨x', y', nx⟩ : ∃ x y, NBoxN u (w.heap.size + 1 + 1 + 1 + 1) x y := by
      rcases hu.l9 with e | t
      ·exact ⟨_, _, NZ0.out.heap e hu.but.size⟩
      ·exact ⟨_, _, t⟩
     have NX := hideP nx
     obtain ⟨d0, d1, d2, d3, d4, d5, d6, d7, x0, x1, x2, x3, x4, x5, x6, x7, ltd⟩ := id nx
     exact skip_wp (by intro c h; cases h) (fun _ _ => trivial) (by simp only [execOp, i9, i60]; simp [go_sem, d0, d1, d2, d3, d4, d5, d6, d7, x0, x1, x2, x3, x4, x5, x6, x7]) ⟨undef, rfl, NX.out.fill e9 a, ⟨(((((((but_cell1 (.inr rfl) _ _ _).trans (but_cell1 (.inr rfl) _ _ _)).trans (but_cell1 (.inr rfl) _ _ _)).trans (but_cell1 (.inr rfl) _ _ _)).trans (but_cell1 (.inr rfl) _ _ _)).trans (but_cell1 (.inr rfl) _ _ _)).trans (but_cell1 (.inr rfl) _ _ _)).trans (but_cell1 (.inr rfl) _ _ _), .inl (by rw [heap1 _ (by omega), heap1 _ (by omega), heap1 _ (by omega), heap1 _ (by omega), heap1 _ (by omega), heap1 _ (by omega), heap1 _ (by omega), heap1 _ (by omega)]), .inr (NX.out.fill e9 a)⟩⟩
    ·obtain rfl := Option.some.inj (opYJ ho)
     exact plain_wp (by intro c h; cases h) (fun _ _ => trivial) (by simp only [execOp, evalC, evalF, evalG]; simp [go_sem]) ⟨_, rfl, rfl, TwoJ.bl (Bl.refl _) (by have := hu.but.size; omega) (by have := hu.but.size; omega)⟩
   case fin =>
    intro vs u hu hin hnon
    have a0 := hin 0 55 rfl
    have a1 := hin 1 56 rfl
    have a2 := hin 2 57 rfl
    have a3 := hin 3 58 rfl
    have a4 := hin 4 59 rfl
    have a5 := hin 5 60 rfl
    have a6 := hnon 6 rfl
    have a7 := hnon 7 rfl
    have a8 := hin 8 10 rfl
    simp only [putL, Act.put, List.setIfInBounds_toArray, List.set_cons_zero, List.set_cons_succ, Nat.zero_add, Nat.reduceAdd, if_true, reduceIte] at a0 a1 a2 a3 a4 a5 a6 a7 a8 ⊢
    simp only [a0, a1, a2, a3, a4, a5, a8]
    obtain ⟨d0, d1, d2, d3, _, _, _, _, _⟩ := a6
    obtain ⟨q0, q1, q2, q3, q4, q5, q6, q7, _, _, _, _, _, _, _, _, _⟩ := a7
    have HMF := hideP (Mx.but (HZS7.out) hu.but (fun b hb => by cases hb; show ¬ (g = w.heap.size + 1 + 1 + 1 ∨ g = w.heap.size + 1 + 1 + 1 + 1); omega))
    have HRW := hideP (HRX.out.but hu.but (fun b hb => by have := HFX.out b hb; show ¬ (_ = _ ∨ _ = _); omega))
    clear hin hnon
    go_wp2
    simp [bodyPost, results, Tryz.results36, go_sem, d0, d1, d2, d3, q0, q1, q2, q3, q4, q5, q6, q7]
    exact ⟨px', cx', some ⟨g, 0, none⟩, gc, by simp, ⟨HRW.out, HMF.out, fresh_le HFX.out (by omega), fun b hb => by cases hb; show w.heap.size ≤ g; omega⟩, hu.but.bl B7 (fun i hi => by rcases hi with h | h <;> omega)⟩
def wellG (ops : Array Oper) (ds : List (Option Nat)) : Bool :=
 lowB2 ops && onceB ds && (ds.length == ops.size) && (List.range ops.size).all fun j => match ops[j]? with
  | none => true
  | some o => (ds[j]? == some o.dst) && match o.guard with
   | none => true
   | some (g, _) => edgeB ops j g && (match ds[g]? with
    | some (some _) => true
    | _ => false)
theorem bool_tmp {a : Act} {t : Nat} {b : Bool} (h : a.eval (.tmp t) = .bool b) (ht : t < a.tmps.size) : a.tmps[t]? = some (.bool b) := by
 have : a.tmps.getD t undef = .bool b := h
 rw [Array.getD_eq_getD_getElem?, Array.getElem?_eq_getElem ht] at this
 rw [Array.getElem?_eq_getElem ht]
 simpa using this
theorem region_g {F : Fence} {n : Nat} {P : Program} {ops : Array Oper} {Q : Exit → Act → World → Prop} {a : Act} {W : World} {id : Nat} (hm : P.follows .mixedOrders = true) (R : World → World → Prop) (ds : List (Option Nat)) (hw : wellG ops ds = true)
  (hsz0 : ds.all (fun d => match d with | some t => Nat.blt t a.tmps.size | none => true) = true) (h0 : R W W.drew) (hR : ∀ {x y z}, R x y → R y z → R x z) (facts : Nat → Value → World → Prop) (mono : ∀ j v u u', R W u → R u u' → facts j v u → facts j v u')
  (hG : ∀ (j : Nat) (o : Oper) (g : Nat) (b : Bool) (v : Value) (u : World), ops[j]? = some o → o.guard = some (g, b) → facts g v u → v = .bool b)
  (step : ∀ (j : Nat) (o : Oper) (act : Act) (u : World), ops[j]? = some o → act.tmps.size = a.tmps.size → R W u → (∀ t, some t ∉ ds → act.eval (.tmp t) = a.eval (.tmp t)) → (∀ e ∈ o.after, Region.binds .any e = true → ∀ t, ds[e.on]? = some (some t) → facts e.on (act.eval (.tmp t)) u) → (∀ e ∈ o.after, Region.binds .any e = true → ds[e.on]? = some none → facts e.on undef u) →
   Oper.wpIn F n P o act u (fun act' u' => ∃ v, act' = act.put o.dst v ∧ facts j (if o.dst.isSome then v else undef) u' ∧ R u u') Q)
  (fin : ∀ (vs : Nat → Value) (u : World), R W u → (∀ (j : Nat) (t : Nat), ds[j]? = some (some t) → facts j (vs j) u) → (∀ (j : Nat), ds[j]? = some none → facts j undef u) → Q .normal (putL ds vs 0 a) u) :
  (Code.region id ops true).wpIn F n P Q a W := by
 simp only [wellG, Bool.and_eq_true] at hw
 obtain ⟨⟨⟨hlow, honce⟩, hlen⟩, hall'⟩ := hw
 have hlen' : ds.length = ops.size := by simpa using hlen
 have key : ∀ (j : Nat) (o : Oper), ops[j]? = some o → ds[j]? = some o.dst ∧ ∀ g b, o.guard = some (g, b) → edgeB ops j g = true ∧ ∃ t, ds[g]? = some (some t) := fun j o ho => by
  have h := List.all_eq_true.1 hall' j (by simpa using (Array.getElem?_eq_some_iff.1 ho).1)
  rw [ho] at h
  simp only [Bool.and_eq_true, beq_iff_eq] at h
  refine ⟨h.1, fun g b hg => ?_⟩
  have h2 := h.2
  rw [hg] at h2
  simp only [Bool.and_eq_true] at h2
  refine ⟨h2.1, ?_⟩
  have h3 := h2.2
  cases hd : ds[g]? with
  | none => rw [hd] at h3; cases h3
  | some d =>
   cases d with
   | none => rw [hd] at h3; cases h3
   | some t => exact ⟨t, rfl⟩
 have hsz : ∀ t, some t ∈ ds → t < a.tmps.size := fun t ht => by have := List.all_eq_true.1 hsz0 _ ht; rw [Nat.blt_eq] at this; exact this
 have hlt : ∀ (j : Nat) d, ds[j]? = some d → j < ops.size := fun j d h => by have := (List.getElem?_eq_some_iff.1 h).1; rw [hlen'] at this; exact this
 have hne := once_ne honce
 refine region_facts2 hm (lowB2_low hlow) (RR R W a ops ds facts) ?_ ?_ ?_
 ·exact ⟨rfl, rfl, fun _ _ => rfl, h0, (by intro _ _ _ h; cases h), (by intro _ _ h; cases h)⟩
 ·intro L act u i o hI ho hLi hall
  have hdi := (key i o ho).1
  have hwant : Region.wanted o (yielded ops act.tmps) = true := by
   cases hgd : o.guard with
   | none => simp [Region.wanted, hgd]
   | some gb =>
    obtain ⟨g, b⟩ := gb
    obtain ⟨he, t, ht⟩ := (key i o ho).2 g b hgd
    obtain ⟨o', e, ho', hea, hej, hb⟩ := edge_of he
    rw [ho] at ho'
    cases ho'
    have hLg : L g = true := by rw [← hej]; exact hall e hea hb
    have hv := hG i o g b _ u ho hgd (hI.val g t ht hLg)
    have hog : ∃ og, ops[g]? = some og := ⟨_, Array.getElem?_eq_getElem (hlt g _ ht)⟩
    obtain ⟨og, hog⟩ := hog
    have hdg : og.dst = some t := by have := (key g og hog).1; rw [ht] at this; exact (Option.some.inj this).symm
    have hy : yielded ops act.tmps g = some b := by
     unfold yielded
     rw [hog]
     simp only [Option.bind_some, hdg, bool_tmp hv (by rw [hI.size]; exact hsz t (List.mem_of_getElem? ht))]
    simp [Region.wanted, hgd, hy]
  unfold wpOpIn
  rw [ho]
  show if _ then _ else _
  rw [if_pos hwant]
  have hfr : ∀ t, some t ∉ ds → act.eval (.tmp t) = a.eval (.tmp t) := fun t ht => hI.frame t (fun j _ e => ht (List.mem_of_getElem? e))
  refine Oper.wpIn_mono ?_ (step i o act u ho hI.size hI.rel hfr (fun e he hbe t' ht' => hI.val e.on t' ht' (hall e he hbe)) (fun e he hbe hd => hI.non e.on hd (hall e he hbe)))
  rintro act' u' ⟨v, rfl, hf, hr⟩
  have hval : ∀ (j t : Nat), ds[j]? = some (some t) → (L j || (j == i)) = true → facts j ((act.put o.dst v).eval (.tmp t)) u' := fun j t h hj => by
   by_cases e : j = i
   ·subst e
    rw [hdi] at h
    have hd : o.dst = some t := Option.some.inj h
    rw [hd] at hf ⊢
    rw [eval_put_same (by rw [hI.size]; exact hsz t (List.mem_of_getElem? (by rw [hdi, hd])))]
    exact hf
   ·have hLj : L j = true := by
     rw [Bool.or_eq_true] at hj
     rcases hj with hj | hj
     ·exact hj
     ·exact absurd (by simpa using hj) e
    rw [eval_put_ne (fun e2 => hne j i t t h (by rw [hdi, e2]) e rfl)]
    exact mono j _ u u' hI.rel hr (hI.val j t h hLj)
  refine ⟨by rw [size_put]; exact hI.size, by rw [defers_put]; exact hI.defers, fun t ht => ?_, hR hI.rel hr, hval, fun j hd hj => ?_⟩
  ·rw [eval_put_ne (fun e => ht i (by simp) (by rw [hdi, e]))]
   exact hI.frame t (fun j hj => ht j (by rw [hj]; rfl))
  ·by_cases e : j = i
   ·subst e
    rw [hdi] at hd
    have hd' : o.dst = none := Option.some.inj hd
    rw [hd'] at hf
    exact hf
   ·have hLj : L j = true := by
     rw [Bool.or_eq_true] at hj
     rcases hj with hj | hj
     ·exact hj
     ·exact absurd (by simpa using hj) e
    exact mono j _ u u' hI.rel hr (hI.non j hd hLj)
 ·intro L act u hI hall
  have hL : ∀ j d, ds[j]? = some d → L j = true := fun j d h => hall j (hlt j d h)
  have e : act = putL ds (fun j => act.eval (.tmp ((ds[j]?.getD none).getD 0))) 0 a := by
   refine act_ext (by rw [putL_size]; exact hI.size) (by rw [putL_defers]; exact hI.defers) fun t ht => ?_
   by_cases hm' : some t ∈ ds
   ·obtain ⟨j, hj⟩ := List.getElem?_of_mem hm'
    rw [putL_at ds _ t j 0 a honce hj (by rw [← hI.size]; exact ht), Nat.zero_add, hj]
    rfl
   ·rw [putL_other ds _ t 0 a (fun d hd e => hm' (by rw [← e]; exact hd))]
    exact hI.frame t (fun j _ e => hm' (List.mem_of_getElem? e))
  rw [e]
  exact fin _ u hI.rel (fun j t h => by have := hI.val j t h (hL j _ h); simpa [h] using this) (fun j h => hI.non j h (hL j _ h))
end Go.Proofs.YtljmggemdkfbiaaGreat
