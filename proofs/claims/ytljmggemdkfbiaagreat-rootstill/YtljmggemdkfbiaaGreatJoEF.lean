/- Contract of joseph's Update, of fractions (layer 9): what goes together. Written by genJo.py. -/
import Derived.Test.YtljmggemdkfbiaaGreatJoE0F
namespace Go.Proofs.YtljmggemdkfbiaaGreat
open Go.RowKit
set_option linter.unusedSimpArgs false
set_option linter.unusedVariables false

set_option maxRecDepth 100000 in
set_option maxHeartbeats 8000000 in
theorem jUpdateF (n N : Nat) (px : Option Addr) (cx : Nat) (x : Nat → Fr) (p : Option Addr) (cap : Nat) (P : Nat → Nat → Fr) (ph : Option Addr) (ch : Nat) (h : Nat → Fr) (r z : Fr) (w : World)
    (hx : Rq 3 cellsF w (.slice px n cx) (linJ n x)) (hP : Mx 3 cellsF w n n p N cap P) (hh : Rq 3 cellsF w (.slice ph n ch) (linJ n h)) (h4 : n ≤ 4) :
    Calls Tryz.prog 15 #[sJ px n cx n n p N cap, .slice ph n ch, frV r, frV z] w fun e w' => ∃ q c p' c', e = .returned (.tuple #[sJ q n c n n p' N c', newsVF (surpJ kdF n x h z) (spreadJ kdF n P h r), .bool true]) ∧ (Rw 3 cellsF w' (.slice q n c) (linJ n (upXJ kdF n x P h r z)) ∧ Mx 3 cellsF w' n n p' N c' (upPJ kdF (fun i j => wholeF (unitI i j)) n P h r) ∧ Fresh w.heap.size (.slice q n c) ∧ Fresh w.heap.size (.slice p' N c')) ∧ Bl w w' := by
  have fm : Tryz.prog.follows .mixedOrders = true := by kernel_rfl
  have egD := enters_of Tryz.func47 (by kernel_rfl) rfl
  have egA := enters_of Tryz.func184 (by kernel_rfl) rfl
  have egS := enters_of Tryz.func192 (by kernel_rfl) rfl
  have egC := enters_of Tryz.func50 (by kernel_rfl) rfl
  have egV := enters_of Tryz.func49 (by kernel_rfl) rfl
  have egR := enters_of Tryz.func51 (by kernel_rfl) rfl
  have egO := enters_of Tryz.func44 (by kernel_rfl) rfl
  have egM := enters_of Tryz.func46 (by kernel_rfl) rfl
  have hfit := fitJ_dim hP.1 hP.2.1 h4
  have hn6 : n ≤ 1000000 := by omega
  have hn1 : 1 ≤ n := hP.1.r1
  obtain ⟨uu, huu⟩ : ∃ uu, uu = appJ kdF n P h := ⟨_, rfl⟩
  obtain ⟨d, hd⟩ : ∃ d, d = dotF (linJ n h) (linJ n uu) := ⟨_, rfl⟩
  obtain ⟨a, hae⟩ : ∃ a, a = addR d r := ⟨_, rfl⟩
  have hspr : a = spreadJ kdF n P h r := by rw [hae, hd, huu]; rfl
  obtain ⟨dx, hdx⟩ : ∃ dx, dx = dotF (linJ n h) (linJ n x) := ⟨_, rfl⟩
  obtain ⟨e9, he9⟩ : ∃ e9, e9 = subR z dx := ⟨_, rfl⟩
  have hsur : e9 = surpJ kdF n x h z := by rw [he9, hdx]; rfl
  obtain ⟨kk, hkk⟩ : ∃ kk, kk = fun i => divR (uu i) a := ⟨_, rfl⟩
  have hgain : kk = gainJ kdF n P h r := by rw [hkk, hspr, huu]; rfl
  obtain ⟨mm, hmm⟩ : ∃ mm, mm = restJ kdF (fun i j => wholeF (unitI i j)) kk h := ⟨_, rfl⟩
  obtain ⟨PP, hPP⟩ : ∃ PP, PP = mirrJ kdF (aroundJ kdF n mm P) (outerJ kdF (fun i => mulR (kk i) r) kk) := ⟨_, rfl⟩
  have hupP : upPJ kdF (fun i j => wholeF (unitI i j)) n P h r = PP := by rw [hPP, hmm, hgain]; rfl
  have HUX := hideP (show upXJ kdF n x P h r z = fun i => addR (x i) (mulR (kk i) e9) by rw [hgain, hsur]; rfl)
  rw [← hspr, ← hsur, hupP]
  have HKK := hideP (show linJ n kk = linJ n (fun i => divR (uu i) a) by rw [hkk])
  have HAE := hideP (show True from trivial)
  have HPP := hideP hPP
  have HMM := hideP hmm
  have HE9 := hideP he9
  have HDX := hideP hdx
  have HDD := hideP hd
  have HADD := hideP hae
  have HUU := hideP huu
  clear hae hspr he9 hsur hgain hmm hPP hupP hdx hd hkk huu
  obtain ⟨W, hW⟩ : ∃ W, W = ((((w.alloc (.cells #[.slice px n cx, .int .i64 n, .int .i64 n, .slice p N cap] 36)).alloc (.cells #[.int .i64 r.n, .int .i64 r.d, .bool r.bad] 34)).alloc (.cells #[.int .i64 z.n, .int .i64 z.d, .bool z.bad] 34)).alloc (.cells #[.slice none 0 0, .int .i64 0, .int .i64 0, .slice none 0 0] 36)).alloc (.cells #[.int .i64 0, .int .i64 0, .bool false, .int .i64 0, .int .i64 0, .bool false] 41) := ⟨_, rfl⟩
  have b0 : Bl w W := by rw [hW]; exact (((((Bl.refl _).alloc _).alloc _).alloc _).alloc _).alloc _
  have s0 : SBox W w.heap.size px n cx n n p N cap := by rw [hW]; exact (SBox.new w _ _ _ _ _ _ _ _ _).later (((((Bl.refl _).alloc _).alloc _).alloc _).alloc _)
  have r0 : FBox W (w.heap.size + 1) r := by rw [hW]; have := FBox.new (w.alloc (.cells #[.slice px n cx, .int .i64 n, .int .i64 n, .slice p N cap] 36)) r 34; rw [World.size_alloc] at this; exact this.later ((((Bl.refl _).alloc _).alloc _).alloc _)
  have z0 : FBox W (w.heap.size + 1 + 1) z := by rw [hW]; have := FBox.new ((w.alloc (.cells #[.slice px n cx, .int .i64 n, .int .i64 n, .slice p N cap] 36)).alloc (.cells #[.int .i64 r.n, .int .i64 r.d, .bool r.bad] 34)) z 34; rw [World.size_alloc, World.size_alloc] at this; exact this.later (((Bl.refl _).alloc _).alloc _)
  have sz0 : SBox W (w.heap.size + 1 + 1 + 1) none 0 0 0 0 none 0 0 := by rw [hW]; have := SBox.new (((w.alloc (.cells #[.slice px n cx, .int .i64 n, .int .i64 n, .slice p N cap] 36)).alloc (.cells #[.int .i64 r.n, .int .i64 r.d, .bool r.bad] 34)).alloc (.cells #[.int .i64 z.n, .int .i64 z.d, .bool z.bad] 34)) none 0 0 0 0 none 0 0 36; rw [World.size_alloc, World.size_alloc, World.size_alloc] at this; exact this.later ((Bl.refl _).alloc _)
  have nz0 : NBoxF W (w.heap.size + 1 + 1 + 1 + 1) zeroR zeroR := by rw [hW]; have := NBoxF.new ((((w.alloc (.cells #[.slice px n cx, .int .i64 n, .int .i64 n, .slice p N cap] 36)).alloc (.cells #[.int .i64 r.n, .int .i64 r.d, .bool r.bad] 34)).alloc (.cells #[.int .i64 z.n, .int .i64 z.d, .bool z.bad] 34)).alloc (.cells #[.slice none 0 0, .int .i64 0, .int .i64 0, .slice none 0 0] 36)) zeroR zeroR 41; rw [World.size_alloc, World.size_alloc, World.size_alloc, World.size_alloc] at this; exact this
  have hs : W.heap.size = w.heap.size + 1 + 1 + 1 + 1 + 1 := by rw [hW]; simp
  have HX := hideP hx
  have HD := hideP hP.1
  have HN := hideP hP.2.1
  have HP := hideP hP
  have HH := hideP hh
  have HW := hideP hW
  clear hW hx hP hh
  go_enter Tryz.func15, Tryz.ntmps15
  go_wp2_with fail
  rw [← HW.out]
  refine (jRightF _ _ _ _ _ _ _ _ _).mono ?_
  rintro e w1 ⟨rfl, h1⟩
  rw [hfit]
  obtain ⟨d0, d1, d2, d3, _, _, _, _, _⟩ := s0.later h1
  go_wp2_with fail
  refine (mApplyF' n n p N cap P ph ch (linJ n h) w1 (HP.out.later (b0.trans h1)) (HH.out.later (b0.trans h1)) (linJ_len _ _)).mono ?_
  rintro e w3 ⟨pu, cu, rfl, hRu, _, h3⟩
  have HU := hideP (show Rw 3 cellsF w3 (.slice pu n cu) (linJ n uu) from by rw [HUU.out]; exact hRu)
  have b3 : Bl W w3 := h1.trans h3
  have B3 : Bl w w3 := b0.trans b3
  have kr := r0.later b3
  have hs3 : w.heap.size + 1 + 1 + 1 + 1 + 1 ≤ w3.heap.size := by have := b3.size; omega
  have DOT := hideP (fun u (hu : Bl w3 u) => by have := vDotF (.slice ph n ch) (.slice pu n cu) (linJ n h) (linJ n uu) u (HH.out.later (B3.trans hu)) (HU.out.later hu).q (by rw [linJ_len]; exact hn6) (by rw [linJ_len]; exact hn6); rw [← HDD.out] at this; exact this)
  have ADD := hideP (fun u => by have := radd_any d r u; rw [← HADD.out] at this; exact this)
  clear d0 d1 d2 d3 hRu
  go_wp2_with fail
  refine (wpIn_wide (n := 8)).1 (region_q fm [some 39, some 40, some 41, some 42, some 43, some 44, some 13, none] (fun _ => false) 7 (by kernel_rfl) (by rfl)
      (fun j v u => match j with | 0 => v = .slice ph n ch | 1 => v = .slice pu n cu | 2 => v = frV d | 3 => v = .iface 34 (frV d) | 4 => v = frV r | 5 => v = frV a | 6 => ∃ bb, v = .pointer (some ⟨bb, 0, none⟩) ∧ w3.heap.size ≤ bb ∧ FBox u bb zeroR | _ => False)
      (by
        intro j v u u' hb h
        split at h <;> first | exact h | (obtain ⟨bb, e, h1, h2⟩ := h; exact ⟨bb, e, h1, h2.later hb⟩)) (fun vs u0 u => ∃ bb, vs 6 = .pointer (some ⟨bb, 0, none⟩) ∧ w3.heap.size ≤ bb ∧ FBox u bb a ∧ Bl w3 u) ?step ?still ?store ?fin)
  case step =>
    intro j o t act u ho hdt hpu hsz hu hfr hin
    have hj : j < 8 := (Array.getElem?_eq_some_iff.1 ho).1
    obtain ⟨c0, c1, c2, f0, f1, f2, ltr⟩ := kr.later hu
    rcases (by omega : j = 0 ∨ j = 1 ∨ j = 2 ∨ j = 3 ∨ j = 4 ∨ j = 5 ∨ j = 6 ∨ j = 7) with rfl | rfl | rfl | rfl | rfl | rfl | rfl | rfl
    · simp only [List.getElem?_toArray, List.getElem?_cons_zero, List.getElem?_cons_succ, Option.some.injEq] at ho
      subst ho
      obtain rfl := Option.some.inj hdt
      have i1 : act.eval (.tmp (1 : Nat)) = .slice ph n ch := hfr 1 (by decide)
      exact plain_wp (by intro c h; cases h) (fun _ _ => trivial) (by simp only [execOp, i1, evalC, evalF, evalG]; simp [go_sem]) ⟨_, rfl, rfl, Bl.refl _⟩
    · simp only [List.getElem?_toArray, List.getElem?_cons_zero, List.getElem?_cons_succ, Option.some.injEq] at ho
      subst ho
      obtain rfl := Option.some.inj hdt
      have i11 : act.eval (.tmp (11 : Nat)) = .slice pu n cu := hfr 11 (by decide)
      exact plain_wp (by intro c h; cases h) (fun _ _ => trivial) (by simp only [execOp, i11, evalC, evalF, evalG]; simp [go_sem]) ⟨_, rfl, rfl, Bl.refl _⟩
    · simp only [List.getElem?_toArray, List.getElem?_cons_zero, List.getElem?_cons_succ, Option.some.injEq] at ho
      subst ho
      obtain rfl := Option.some.inj hdt
      have i39 : (act.eval (.tmp (39 : Nat))) = .slice ph n ch := hin ⟨0, .data⟩ (by simp) rfl 39 rfl
      have i40 : (act.eval (.tmp (40 : Nat))) = .slice pu n cu := hin ⟨1, .data⟩ (by simp) rfl 40 rfl
      refine enter_wp 47 #[.slice ph n ch, .slice pu n cu] (by intro c h; cases h) (fun _ _ => trivial) (by simp only [execOp, evalC, evalF, evalG, resolve, i39, i40, List.map_toArray, List.map_cons, List.map_nil]; simp [invoke, egD, Result.andThen, go_sem]) (by intro h; cases h) (callsIn_wide.2 (DOT.out u hu)) ?_
      rintro e w' ⟨rfl, hb⟩
      exact ⟨_, rfl, _, rfl, rfl, hb⟩
    · simp only [List.getElem?_toArray, List.getElem?_cons_zero, List.getElem?_cons_succ, Option.some.injEq] at ho
      subst ho
      obtain rfl := Option.some.inj hdt
      have i41 : (act.eval (.tmp (41 : Nat))) = frV d := hin ⟨2, .data⟩ (by simp) rfl 41 rfl
      exact plain_wp (by intro c h; cases h) (fun _ _ => trivial) (by simp only [execOp, i41, evalC, evalF, evalG]; simp [go_sem, c0, c1, c2]) ⟨_, rfl, rfl, Bl.refl _⟩
    · simp only [List.getElem?_toArray, List.getElem?_cons_zero, List.getElem?_cons_succ, Option.some.injEq] at ho
      subst ho
      obtain rfl := Option.some.inj hdt
      have i6 : act.eval (.tmp (6 : Nat)) = .pointer (some ⟨w.heap.size + 1, 0, none⟩) := hfr 6 (by decide)
      exact plain_wp (by intro c h; cases h) (fun _ _ => trivial) (by simp only [execOp, i6, evalC, evalF, evalG]; simp [go_sem, c0, c1, c2]) ⟨_, rfl, rfl, Bl.refl _⟩
    · simp only [List.getElem?_toArray, List.getElem?_cons_zero, List.getElem?_cons_succ, Option.some.injEq] at ho
      subst ho
      obtain rfl := Option.some.inj hdt
      have i42 : (act.eval (.tmp (42 : Nat))) = .iface 34 (frV d) := hin ⟨3, .data⟩ (by simp) rfl 42 rfl
      have i43 : (act.eval (.tmp (43 : Nat))) = frV r := hin ⟨4, .data⟩ (by simp) rfl 43 rfl
      have iv := Tryz.mAddF
      refine enter_wp 184 #[frV d, frV r] (by intro c h; cases h) (fun _ _ => trivial) (by simp only [execOp, evalC, evalF, evalG, resolve, i42, i43, List.map_toArray, List.map_cons, List.map_nil]; simp [invoke, iv, egA, Result.andThen, go_sem]) (by intro h; cases h) (callsIn_wide.2 (ADD.out u)) ?_
      rintro e w' ⟨rfl, hb⟩
      exact ⟨_, rfl, _, rfl, rfl, hb⟩
    · simp only [List.getElem?_toArray, List.getElem?_cons_zero, List.getElem?_cons_succ, Option.some.injEq] at ho
      subst ho
      obtain rfl := Option.some.inj hdt
      exact plain_wp (by intro c h; cases h) (fun _ _ => trivial) (w' := u.alloc (.cells #[.int .i64 0, .int .i64 0, .bool false] 34)) (v := .pointer (some ⟨u.heap.size, 0, none⟩)) (by simp only [execOp]; simp [go_sem]) ⟨_, rfl, ⟨u.heap.size, rfl, hu.size, FBox.new u zeroR _⟩, (Bl.refl _).alloc _⟩
    · simp only [List.getElem?_toArray, List.getElem?_cons_zero, List.getElem?_cons_succ, Option.some.injEq] at ho
      subst ho
      cases hdt
  case still =>
    intro j o t act u0 u ho hdt hpu
    cases hpu
  case store =>
    intro o act u vs ho hsz hu hfr hin
    simp only [List.getElem?_toArray, List.getElem?_cons_zero, List.getElem?_cons_succ, Option.some.injEq] at ho
    subst ho
    obtain ⟨i13, k13⟩ : act.eval (.tmp (13 : Nat)) = vs 6 ∧ (∃ bb, (vs 6) = .pointer (some ⟨bb, 0, none⟩) ∧ w3.heap.size ≤ bb ∧ FBox u bb zeroR) := hin 6 13 rfl rfl
    obtain ⟨i44, k44⟩ : act.eval (.tmp (44 : Nat)) = vs 5 ∧ ((vs 5) = frV a) := hin 5 44 rfl rfl
    obtain ⟨bb, e1, hbb, bx⟩ := k13
    rw [e1] at i13
    rw [k44] at i44
    obtain ⟨c0, c1, c2, f0, f1, f2, ltb⟩ := id bx
    exact skip_wp (by intro c h; cases h) (fun _ _ => trivial) (by simp only [execOp, i13, i44]; simp [go_sem, c0, c1, c2, f0, f1, f2]) ⟨rfl, bb, e1, hbb, bx.fill a, Bl.set3 hu hbb _ _ _⟩
  case fin =>
    intro vs vb u0 u hu hin hps
    have a0 := hin 0 39 rfl
    have a1 := hin 1 40 rfl
    have a2 := hin 2 41 rfl
    have a3 := hin 3 42 rfl
    have a4 := hin 4 43 rfl
    have a5 := hin 5 44 rfl
    have a6 := hin 6 13 rfl
    simp only [putL, Act.put, List.setIfInBounds_toArray, List.set_cons_zero, List.set_cons_succ, Nat.zero_add, Nat.reduceAdd, Nat.reduceBEq, Bool.or_false, Bool.or_true, Bool.false_or, Bool.true_or, Bool.false_eq_true, if_false, if_true, reduceIte, Nat.reduceEqDiff, beq_self_eq_true, Bool.or_self] at a0 a1 a2 a3 a4 a5 a6 ⊢
    rw [if_pos (by decide)] at hps
    simp only [a0, a1, a2, a3, a4, a5]
    obtain ⟨b13, e13, hb13, ka, hbu⟩ := hps
    simp only [e13]
    obtain ⟨w4, rfl⟩ : ∃ w4, w4 = u := ⟨_, rfl⟩
    clear a2 a3 a5 a6 hu hin
    have B4 := B3.trans hbu
    obtain ⟨c0, c1, c2, f0, f1, f2, lta⟩ := id ka
    have SH := hideP (jSharesF n pu cu uu a w4 (HU.out.later hbu) hn6)
    go_wp2_with fail
    refine SH.out.mono ?_
    rintro e w5 ⟨pk, ck, rfl, ⟨hRk, _⟩, h5⟩
    have HK5 := hideP (show Rw 3 cellsF w5 (.slice pk n ck) (linJ n kk) from by rw [HKK.out]; exact hRk)
    have B5 := B4.trans h5
    have b35 : Bl w3 w5 := hbu.trans h5
    have kz := z0.later (b3.trans b35)
    have ks := s0.later (b3.trans b35)
    have hs5 := b35.size
    have ka5 := ka.later h5
    have DOX := hideP (fun u (hu : Bl w5 u) => by have := vDotF (.slice ph n ch) (.slice px n cx) (linJ n h) (linJ n x) u (HH.out.later (B5.trans hu)) (HX.out.later (B5.trans hu)) (by rw [linJ_len]; exact hn6) (by rw [linJ_len]; exact hn6); rw [← HDX.out] at this; exact this)
    have SUB := hideP (fun u => by have := rsub_any z dx u; rw [← HE9.out] at this; exact this)
    clear c0 c1 c2 f0 f1 f2 lta hRk SH DOT ADD kr
    go_wp2_with fail
    refine (wpIn_wide (n := 8)).1 (region_q fm [some 48, some 49, some 50, some 51, some 52, some 53, some 54, some 15, none] (fun _ => false) 8 (by kernel_rfl) (by rfl)
          (fun j v u => match j with | 0 => v = frV z | 1 => v = .iface 34 (frV z) | 2 => v = .slice ph n ch | 3 => v = .pointer (some ⟨w.heap.size, 0, none⟩) | 4 => v = .slice px n cx | 5 => v = frV dx | 6 => v = frV e9 | 7 => ∃ bb, v = .pointer (some ⟨bb, 0, none⟩) ∧ w5.heap.size ≤ bb ∧ FBox u bb zeroR | _ => False)
          (by
            intro j v u u' hb h
            split at h <;> first | exact h | (obtain ⟨bb, e, h1, h2⟩ := h; exact ⟨bb, e, h1, h2.later hb⟩)) (fun vs u0 u => ∃ bb, vs 7 = .pointer (some ⟨bb, 0, none⟩) ∧ w5.heap.size ≤ bb ∧ FBox u bb e9 ∧ Bl w5 u) ?step ?still ?store ?fin)
    case step =>
      intro j o t act u ho hdt hpu hsz hu hfr hin
      have hj : j < 9 := (Array.getElem?_eq_some_iff.1 ho).1
      obtain ⟨c0, c1, c2, f0, f1, f2, ltr⟩ := kz.later hu
      obtain ⟨y0, y1, y2, y3, _, _, _, _, _⟩ := ks.later hu
      rcases (by omega : j = 0 ∨ j = 1 ∨ j = 2 ∨ j = 3 ∨ j = 4 ∨ j = 5 ∨ j = 6 ∨ j = 7 ∨ j = 8) with rfl | rfl | rfl | rfl | rfl | rfl | rfl | rfl | rfl
      · simp only [List.getElem?_toArray, List.getElem?_cons_zero, List.getElem?_cons_succ, Option.some.injEq] at ho
        subst ho
        obtain rfl := Option.some.inj hdt
        have i7 : act.eval (.tmp (7 : Nat)) = .pointer (some ⟨w.heap.size + 1 + 1, 0, none⟩) := hfr 7 (by decide)
        exact plain_wp (by intro c h; cases h) (fun _ _ => trivial) (by simp only [execOp, i7, evalC, evalF, evalG]; simp [go_sem, c0, c1, c2]) ⟨_, rfl, rfl, Bl.refl _⟩
      · simp only [List.getElem?_toArray, List.getElem?_cons_zero, List.getElem?_cons_succ, Option.some.injEq] at ho
        subst ho
        obtain rfl := Option.some.inj hdt
        have i48 : (act.eval (.tmp (48 : Nat))) = frV z := hin ⟨0, .data⟩ (by simp) rfl 48 rfl
        exact plain_wp (by intro c h; cases h) (fun _ _ => trivial) (by simp only [execOp, i48, evalC, evalF, evalG]; simp [go_sem, c0, c1, c2]) ⟨_, rfl, rfl, Bl.refl _⟩
      · simp only [List.getElem?_toArray, List.getElem?_cons_zero, List.getElem?_cons_succ, Option.some.injEq] at ho
        subst ho
        obtain rfl := Option.some.inj hdt
        have i1 : act.eval (.tmp (1 : Nat)) = .slice ph n ch := hfr 1 (by decide)
        exact plain_wp (by intro c h; cases h) (fun _ _ => trivial) (by simp only [execOp, i1, evalC, evalF, evalG]; simp [go_sem]) ⟨_, rfl, rfl, Bl.refl _⟩
      · simp only [List.getElem?_toArray, List.getElem?_cons_zero, List.getElem?_cons_succ, Option.some.injEq] at ho
        subst ho
        obtain rfl := Option.some.inj hdt
        have i4 : act.eval (.tmp (4 : Nat)) = .pointer (some ⟨w.heap.size, 0, none⟩) := hfr 4 (by decide)
        exact plain_wp (by intro c h; cases h) (fun _ _ => trivial) (by simp only [execOp, i4, evalC, evalF, evalG]; simp [go_sem, y0, y1, y2, y3]) ⟨_, rfl, rfl, Bl.refl _⟩
      · simp only [List.getElem?_toArray, List.getElem?_cons_zero, List.getElem?_cons_succ, Option.some.injEq] at ho
        subst ho
        obtain rfl := Option.some.inj hdt
        have i51 : (act.eval (.tmp (51 : Nat))) = .pointer (some ⟨w.heap.size, 0, none⟩) := hin ⟨3, .data⟩ (by simp) rfl 51 rfl
        exact plain_wp (by intro c h; cases h) (fun _ _ => trivial) (by simp only [execOp, i51, evalC, evalF, evalG]; simp [go_sem, y0, y1, y2, y3]) ⟨_, rfl, rfl, Bl.refl _⟩
      · simp only [List.getElem?_toArray, List.getElem?_cons_zero, List.getElem?_cons_succ, Option.some.injEq] at ho
        subst ho
        obtain rfl := Option.some.inj hdt
        have i50 : (act.eval (.tmp (50 : Nat))) = .slice ph n ch := hin ⟨2, .data⟩ (by simp) rfl 50 rfl
        have i52 : (act.eval (.tmp (52 : Nat))) = .slice px n cx := hin ⟨4, .data⟩ (by simp) rfl 52 rfl
        refine enter_wp 47 #[.slice ph n ch, .slice px n cx] (by intro c h; cases h) (fun _ _ => trivial) (by simp only [execOp, evalC, evalF, evalG, resolve, i50, i52, List.map_toArray, List.map_cons, List.map_nil]; simp [invoke, egD, Result.andThen, go_sem]) (by intro h; cases h) (callsIn_wide.2 (DOX.out u hu)) ?_
        rintro e w' ⟨rfl, hb⟩
        exact ⟨_, rfl, _, rfl, rfl, hb⟩
      · simp only [List.getElem?_toArray, List.getElem?_cons_zero, List.getElem?_cons_succ, Option.some.injEq] at ho
        subst ho
        obtain rfl := Option.some.inj hdt
        have i49 : (act.eval (.tmp (49 : Nat))) = .iface 34 (frV z) := hin ⟨1, .data⟩ (by simp) rfl 49 rfl
        have i53 : (act.eval (.tmp (53 : Nat))) = frV dx := hin ⟨5, .data⟩ (by simp) rfl 53 rfl
        have iv := Tryz.mSubF
        refine enter_wp 192 #[frV z, frV dx] (by intro c h; cases h) (fun _ _ => trivial) (by simp only [execOp, evalC, evalF, evalG, resolve, i49, i53, List.map_toArray, List.map_cons, List.map_nil]; simp [invoke, iv, egS, Result.andThen, go_sem]) (by intro h; cases h) (callsIn_wide.2 (SUB.out u)) ?_
        rintro e w' ⟨rfl, hb⟩
        exact ⟨_, rfl, _, rfl, rfl, hb⟩
      · simp only [List.getElem?_toArray, List.getElem?_cons_zero, List.getElem?_cons_succ, Option.some.injEq] at ho
        subst ho
        obtain rfl := Option.some.inj hdt
        exact plain_wp (by intro c h; cases h) (fun _ _ => trivial) (w' := u.alloc (.cells #[.int .i64 0, .int .i64 0, .bool false] 34)) (v := .pointer (some ⟨u.heap.size, 0, none⟩)) (by simp only [execOp]; simp [go_sem]) ⟨_, rfl, ⟨u.heap.size, rfl, hu.size, FBox.new u zeroR _⟩, (Bl.refl _).alloc _⟩
      · simp only [List.getElem?_toArray, List.getElem?_cons_zero, List.getElem?_cons_succ, Option.some.injEq] at ho
        subst ho
        cases hdt
    case still =>
      intro j o t act u0 u ho hdt hpu
      cases hpu
    case store =>
      intro o act u vs ho hsz hu hfr hin
      simp only [List.getElem?_toArray, List.getElem?_cons_zero, List.getElem?_cons_succ, Option.some.injEq] at ho
      subst ho
      obtain ⟨i15, k15⟩ : act.eval (.tmp (15 : Nat)) = vs 7 ∧ (∃ bb, (vs 7) = .pointer (some ⟨bb, 0, none⟩) ∧ w5.heap.size ≤ bb ∧ FBox u bb zeroR) := hin 7 15 rfl rfl
      obtain ⟨i54, k54⟩ : act.eval (.tmp (54 : Nat)) = vs 6 ∧ ((vs 6) = frV e9) := hin 6 54 rfl rfl
      obtain ⟨bb, e1, hbb, bx⟩ := k15
      rw [e1] at i15
      rw [k54] at i54
      obtain ⟨c0, c1, c2, f0, f1, f2, ltb⟩ := id bx
      exact skip_wp (by intro c h; cases h) (fun _ _ => trivial) (by simp only [execOp, i15, i54]; simp [go_sem, c0, c1, c2, f0, f1, f2]) ⟨rfl, bb, e1, hbb, bx.fill e9, Bl.set3 hu hbb _ _ _⟩
    case fin =>
      intro vs vb u0 u hu hin hps
      have a0 := hin 0 48 rfl
      have a1 := hin 1 49 rfl
      have a2 := hin 2 50 rfl
      have a3 := hin 3 51 rfl
      have a4 := hin 4 52 rfl
      have a5 := hin 5 53 rfl
      have a6 := hin 6 54 rfl
      have a7 := hin 7 15 rfl
      simp only [putL, Act.put, List.setIfInBounds_toArray, List.set_cons_zero, List.set_cons_succ, Nat.zero_add, Nat.reduceAdd, Nat.reduceBEq, Bool.or_false, Bool.or_true, Bool.false_or, Bool.true_or, Bool.false_eq_true, if_false, if_true, reduceIte, Nat.reduceEqDiff, beq_self_eq_true, Bool.or_self] at a0 a1 a2 a3 a4 a5 a6 a7 ⊢
      rw [if_pos (by decide)] at hps
      simp only [a0, a1, a2, a3, a4, a5, a6]
      obtain ⟨b15, e15, hb15, ke, hbu⟩ := hps
      simp only [e15]
      obtain ⟨w6, rfl⟩ : ∃ w6, w6 = u := ⟨_, rfl⟩
      clear a5 a6 a7 hu hin a1
      have B6 := B5.trans hbu
      have ks6 := ks.later hbu
      have HK := hideP (HK5.out.later hbu)
      have hs6 := hbu.size
      have ka6 := ka5.later hbu
      have b36 := b35.trans hbu
      clear DOX SUB kz ks
      go_wp2_with fail
      refine (wpIn_wide (n := 8)).1 (region_q fm [some 55, some 56, some 57, some 58, some 59, some 60, some 16] (fun _ => false) 7 (by kernel_rfl) (by rfl)
            (fun j v u => match j with | 0 => v = .pointer (some ⟨w.heap.size, 0, none⟩) | 1 => v = .slice px n cx | 2 => v = .slice pk n ck | 3 => v = frV e9 | 4 => ∃ q c, v = .slice q n c ∧ Rw 3 cellsF u (.slice q n c) (linJ n fun i => mulR (kk i) e9) | 5 => ∃ q c, v = .slice q n c ∧ Rw 3 cellsF u (.slice q n c) (linJ n fun i => addR (x i) (mulR (kk i) e9)) ∧ Fresh w6.heap.size (.slice q n c) | 6 => ∃ q c, v = .slice q n c ∧ Rw 3 cellsF u (.slice q n c) (linJ n fun i => addR (x i) (mulR (kk i) e9)) ∧ Fresh w6.heap.size (.slice q n c) | _ => False)
            (by
              intro j v u u' hb h
              split at h <;> first | exact h | (obtain ⟨q, c, e, h1, h2⟩ := h; exact ⟨q, c, e, h1.later hb, h2⟩) | (obtain ⟨q, c, e, h1⟩ := h; exact ⟨q, c, e, h1.later hb⟩)) (fun vs u0 u => u = u0) ?step ?still ?store ?fin)
      case step =>
        intro j o t act u ho hdt hpu hsz hu hfr hin
        have hj : j < 7 := (Array.getElem?_eq_some_iff.1 ho).1
        obtain ⟨c0, c1, c2, f0, f1, f2, ltr⟩ := ke.later hu
        obtain ⟨y0, y1, y2, y3, _, _, _, _, _⟩ := ks6.later hu
        rcases (by omega : j = 0 ∨ j = 1 ∨ j = 2 ∨ j = 3 ∨ j = 4 ∨ j = 5 ∨ j = 6) with rfl | rfl | rfl | rfl | rfl | rfl | rfl
        · simp only [List.getElem?_toArray, List.getElem?_cons_zero, List.getElem?_cons_succ, Option.some.injEq] at ho
          subst ho
          obtain rfl := Option.some.inj hdt
          have i4 : act.eval (.tmp (4 : Nat)) = .pointer (some ⟨w.heap.size, 0, none⟩) := hfr 4 (by decide)
          exact plain_wp (by intro c h; cases h) (fun _ _ => trivial) (by simp only [execOp, i4, evalC, evalF, evalG]; simp [go_sem, y0, y1, y2, y3]) ⟨_, rfl, rfl, Bl.refl _⟩
        · simp only [List.getElem?_toArray, List.getElem?_cons_zero, List.getElem?_cons_succ, Option.some.injEq] at ho
          subst ho
          obtain rfl := Option.some.inj hdt
          have i55 : (act.eval (.tmp (55 : Nat))) = .pointer (some ⟨w.heap.size, 0, none⟩) := hin ⟨0, .data⟩ (by simp) rfl 55 rfl
          exact plain_wp (by intro c h; cases h) (fun _ _ => trivial) (by simp only [execOp, i55, evalC, evalF, evalG]; simp [go_sem, y0, y1, y2, y3]) ⟨_, rfl, rfl, Bl.refl _⟩
        · simp only [List.getElem?_toArray, List.getElem?_cons_zero, List.getElem?_cons_succ, Option.some.injEq] at ho
          subst ho
          obtain rfl := Option.some.inj hdt
          have i14 : act.eval (.tmp (14 : Nat)) = .slice pk n ck := hfr 14 (by decide)
          exact plain_wp (by intro c h; cases h) (fun _ _ => trivial) (by simp only [execOp, i14, evalC, evalF, evalG]; simp [go_sem]) ⟨_, rfl, rfl, Bl.refl _⟩
        · simp only [List.getElem?_toArray, List.getElem?_cons_zero, List.getElem?_cons_succ, Option.some.injEq] at ho
          subst ho
          obtain rfl := Option.some.inj hdt
          have i15 : act.eval (.tmp (15 : Nat)) = .pointer (some ⟨b15, 0, none⟩) := hfr 15 (by decide)
          exact plain_wp (by intro c h; cases h) (fun _ _ => trivial) (by simp only [execOp, i15, evalC, evalF, evalG]; simp [go_sem, c0, c1, c2]) ⟨_, rfl, rfl, Bl.refl _⟩
        · simp only [List.getElem?_toArray, List.getElem?_cons_zero, List.getElem?_cons_succ, Option.some.injEq] at ho
          subst ho
          obtain rfl := Option.some.inj hdt
          have i57 : (act.eval (.tmp (57 : Nat))) = .slice pk n ck := hin ⟨2, .data⟩ (by simp) rfl 57 rfl
          have i58 : (act.eval (.tmp (58 : Nat))) = frV e9 := hin ⟨3, .data⟩ (by simp) rfl 58 rfl
          refine enter_wp 50 #[.slice pk n ck, frV e9] (by intro c h; cases h) (fun _ _ => trivial) (by simp only [execOp, evalC, evalF, evalG, resolve, i57, i58, List.map_toArray, List.map_cons, List.map_nil]; simp [invoke, egC, Result.andThen, go_sem]) (by intro h; cases h) (callsIn_wide.2 (scale_linF pk n ck kk e9 u (HK.out.later hu) hn6)) ?_
          rintro e w' ⟨q, c, rfl, hR, hb⟩
          exact ⟨_, rfl, _, rfl, ⟨q, c, rfl, hR⟩, hb⟩
        · simp only [List.getElem?_toArray, List.getElem?_cons_zero, List.getElem?_cons_succ, Option.some.injEq] at ho
          subst ho
          obtain rfl := Option.some.inj hdt
          have i56 : (act.eval (.tmp (56 : Nat))) = .slice px n cx := hin ⟨1, .data⟩ (by simp) rfl 56 rfl
          have i59 : ∃ q c, (act.eval (.tmp (59 : Nat))) = .slice q n c ∧ Rw 3 cellsF u (.slice q n c) (linJ n fun i => mulR (kk i) e9) := hin ⟨4, .data⟩ (by simp) rfl 59 rfl
          obtain ⟨q0, c0', e1, hq⟩ := i59
          refine enter_wp 49 #[.slice px n cx, .slice q0 n c0'] (by intro c h; cases h) (fun _ _ => trivial) (by simp only [execOp, evalC, evalF, evalG, resolve, i56, e1, List.map_toArray, List.map_cons, List.map_nil]; simp [invoke, egV, Result.andThen, go_sem]) (by intro h; cases h) (callsIn_wide.2 (add_linF px q0 n cx c0' x _ u (HX.out.later (B6.trans hu)) hq.q hn6)) ?_
          rintro e w' ⟨q, c, rfl, ⟨hR, hF⟩, hb⟩
          exact ⟨_, rfl, _, rfl, ⟨q, c, rfl, hR, fresh_le hF hu.size⟩, hb⟩
        · simp only [List.getElem?_toArray, List.getElem?_cons_zero, List.getElem?_cons_succ, Option.some.injEq] at ho
          subst ho
          obtain rfl := Option.some.inj hdt
          have i60 : ∃ q c, (act.eval (.tmp (60 : Nat))) = .slice q n c ∧ Rw 3 cellsF u (.slice q n c) (linJ n fun i => addR (x i) (mulR (kk i) e9)) ∧ Fresh w6.heap.size (.slice q n c) := hin ⟨5, .data⟩ (by simp) rfl 60 rfl
          obtain ⟨q0, c0', e1, hq⟩ := i60
          exact plain_wp (by intro c h; cases h) (fun _ _ => trivial) (by simp only [execOp, e1, evalC, evalF, evalG]; simp [go_sem]) ⟨_, rfl, ⟨q0, c0', rfl, hq⟩, Bl.refl _⟩
      case still =>
        intro j o t act u0 u ho hdt hpu
        cases hpu
      case store =>
        intro o act u vs ho
        cases ho
      case fin =>
        intro vs vb u0 u hu hin hps
        have a0 := hin 0 55 rfl
        have a1 := hin 1 56 rfl
        have a2 := hin 2 57 rfl
        have a3 := hin 3 58 rfl
        have a4 := hin 4 59 rfl
        have a5 := hin 5 60 rfl
        have a6 := hin 6 16 rfl
        simp only [putL, Act.put, List.setIfInBounds_toArray, List.set_cons_zero, List.set_cons_succ, Nat.zero_add, Nat.reduceAdd, Nat.reduceBEq, Bool.or_false, Bool.or_true, Bool.false_or, Bool.true_or, Bool.false_eq_true, if_false, if_true, reduceIte, Nat.reduceEqDiff, beq_self_eq_true, Bool.or_self] at a0 a1 a2 a3 a4 a5 a6 ⊢
        rw [if_neg (by decide)] at hps
        simp only [a0, a1, a2, a3]
        subst hps
        obtain ⟨px', cx', e6, hRx, hFx⟩ := a6
        simp only [e6]
        obtain ⟨w7, rfl⟩ : ∃ w7, w7 = u := ⟨_, rfl⟩
        have HRX := hideP hRx
        have HFX := hideP hFx
        clear a4 a5 hRx hFx hin
        have h67 : Bl w6 w7 := hu
        have B7 := B6.trans hu
        have ks7 := ks6.later hu
        have ke7 := ke.later hu
        have ka7 := ka6.later hu
        have hs7 := hu.size
        have b37 := b36.trans hu
        have RST := hideP (fun u (hu : Bl w7 u) => by have := jRestF n N pk ck kk ph ch h u ((HK.out.later (h67.trans hu)).q) (HH.out.later (B7.trans hu)) HD.out HN.out; rw [← HMM.out] at this; exact this)
        clear hu ks6
        go_wp2_with fail
        refine (wpIn_wide (n := 8)).1 (region_q fm [some 61, some 62, some 63, some 64, some 65, some 66, some 17, none] (fun _ => false) 7 (by kernel_rfl) (by rfl)
              (fun j v u => match j with | 0 => v = .slice pk n ck | 1 => v = .slice ph n ch | 2 => ∃ q c, v = mV n n q N c ∧ Mx 3 cellsF u n n q N c mm | 3 => v = .pointer (some ⟨w.heap.size, 1, none⟩) | 4 => v = mV n n p N cap | 5 => ∃ q c, v = mV n n q N c ∧ Mx 3 cellsF u n n q N c (aroundJ kdF n mm P) ∧ Fresh w7.heap.size (.slice q N c) | 6 => ∃ b, v = .pointer (some ⟨b, 0, none⟩) ∧ w7.heap.size ≤ b ∧ MBox u b 0 0 none 0 0 ∧ NoB u b | _ => False)
              (by
                intro j v u u' hb h
                split at h
                · exact h
                · exact h
                · obtain ⟨q, c, e, h1⟩ := h; exact ⟨q, c, e, Mx.later h1 hb⟩
                · exact h
                · exact h
                · obtain ⟨q, c, e, h1, h2⟩ := h; exact ⟨q, c, e, Mx.later h1 hb, h2⟩
                · obtain ⟨b, e, h1, h2, h3⟩ := h; exact ⟨b, e, h1, h2.later hb, h3.later hb h2.lt⟩
                · exact h) (fun vs u0 u => ∃ b q c, vs 6 = .pointer (some ⟨b, 0, none⟩) ∧ w7.heap.size ≤ b ∧ MBox u b n n q N c ∧ Mx 3 cellsF u n n q N c (aroundJ kdF n mm P) ∧ Fresh w7.heap.size (.slice q N c) ∧ Bl w7 u) ?step ?still ?store ?fin)
        case step =>
          intro j o t act u ho hdt hpu hsz hu hfr hin
          have hj : j < 8 := (Array.getElem?_eq_some_iff.1 ho).1
          obtain ⟨y0, y1, y2, y3, _, _, _, _, _⟩ := ks7.later hu
          rcases (by omega : j = 0 ∨ j = 1 ∨ j = 2 ∨ j = 3 ∨ j = 4 ∨ j = 5 ∨ j = 6 ∨ j = 7) with rfl | rfl | rfl | rfl | rfl | rfl | rfl | rfl
          · simp only [List.getElem?_toArray, List.getElem?_cons_zero, List.getElem?_cons_succ, Option.some.injEq] at ho
            subst ho
            obtain rfl := Option.some.inj hdt
            have i14 : act.eval (.tmp (14 : Nat)) = .slice pk n ck := hfr 14 (by decide)
            exact plain_wp (by intro c h; cases h) (fun _ _ => trivial) (by simp only [execOp, i14, evalC, evalF, evalG]; simp [go_sem]) ⟨_, rfl, rfl, Bl.refl _⟩
          · simp only [List.getElem?_toArray, List.getElem?_cons_zero, List.getElem?_cons_succ, Option.some.injEq] at ho
            subst ho
            obtain rfl := Option.some.inj hdt
            have i1 : act.eval (.tmp (1 : Nat)) = .slice ph n ch := hfr 1 (by decide)
            exact plain_wp (by intro c h; cases h) (fun _ _ => trivial) (by simp only [execOp, i1, evalC, evalF, evalG]; simp [go_sem]) ⟨_, rfl, rfl, Bl.refl _⟩
          · simp only [List.getElem?_toArray, List.getElem?_cons_zero, List.getElem?_cons_succ, Option.some.injEq] at ho
            subst ho
            obtain rfl := Option.some.inj hdt
            have i61 : (act.eval (.tmp (61 : Nat))) = .slice pk n ck := hin ⟨0, .data⟩ (by simp) rfl 61 rfl
            have i62 : (act.eval (.tmp (62 : Nat))) = .slice ph n ch := hin ⟨1, .data⟩ (by simp) rfl 62 rfl
            refine enter_wp 51 #[.slice pk n ck, .slice ph n ch] (by intro c h; cases h) (fun _ _ => trivial) (by simp only [execOp, evalC, evalF, evalG, resolve, i61, i62, List.map_toArray, List.map_cons, List.map_nil]; simp [invoke, egR, Result.andThen, go_sem]) (by intro h; cases h) (callsIn_wide.2 (RST.out u hu)) ?_
            rintro e w' ⟨q, c, rfl, ⟨hM, _⟩, hb⟩
            exact ⟨_, rfl, _, rfl, ⟨q, c, rfl, hM⟩, hb⟩
          · simp only [List.getElem?_toArray, List.getElem?_cons_zero, List.getElem?_cons_succ, Option.some.injEq] at ho
            subst ho
            obtain rfl := Option.some.inj hdt
            have i4 : act.eval (.tmp (4 : Nat)) = .pointer (some ⟨w.heap.size, 0, none⟩) := hfr 4 (by decide)
            exact plain_wp (by intro c h; cases h) (fun _ _ => trivial) (by simp only [execOp, i4, evalC, evalF, evalG]; simp [go_sem, y0, y1, y2, y3]) ⟨_, rfl, rfl, Bl.refl _⟩
          · simp only [List.getElem?_toArray, List.getElem?_cons_zero, List.getElem?_cons_succ, Option.some.injEq] at ho
            subst ho
            obtain rfl := Option.some.inj hdt
            have i64 : (act.eval (.tmp (64 : Nat))) = .pointer (some ⟨w.heap.size, 1, none⟩) := hin ⟨3, .data⟩ (by simp) rfl 64 rfl
            exact plain_wp (by intro c h; cases h) (fun _ _ => trivial) (by simp only [execOp, i64, evalC, evalF, evalG]; simp [go_sem, y0, y1, y2, y3]) ⟨_, rfl, rfl, Bl.refl _⟩
          · simp only [List.getElem?_toArray, List.getElem?_cons_zero, List.getElem?_cons_succ, Option.some.injEq] at ho
            subst ho
            obtain rfl := Option.some.inj hdt
            have i63 : ∃ q c, (act.eval (.tmp (63 : Nat))) = mV n n q N c ∧ Mx 3 cellsF u n n q N c mm := hin ⟨2, .data⟩ (by simp) rfl 63 rfl
            have i65 : (act.eval (.tmp (65 : Nat))) = mV n n p N cap := hin ⟨4, .data⟩ (by simp) rfl 65 rfl
            obtain ⟨q0, c0', e1, hq⟩ := i63
            refine enter_wp 44 #[mV n n q0 N c0', mV n n p N cap] (by intro c h; cases h) (fun _ _ => trivial) (by simp only [execOp, evalC, evalF, evalG, resolve, e1, i65, List.map_toArray, List.map_cons, List.map_nil]; simp [invoke, egO, Result.andThen, go_sem]) (by intro h; cases h) (callsIn_wide.2 (jAroundF n N q0 c0' mm p cap P u hq (HP.out.later (B7.trans hu)))) ?_
            rintro e w' ⟨q, c, rfl, ⟨hM, hF⟩, hb⟩
            exact ⟨_, rfl, _, rfl, ⟨q, c, rfl, hM, fresh_le hF hu.size⟩, hb⟩
          · simp only [List.getElem?_toArray, List.getElem?_cons_zero, List.getElem?_cons_succ, Option.some.injEq] at ho
            subst ho
            obtain rfl := Option.some.inj hdt
            exact plain_wp (by intro c h; cases h) (fun _ _ => trivial) (w' := u.alloc (.cells #[.int .i64 0, .int .i64 0, .slice none 0 0] 30)) (v := .pointer (some ⟨u.heap.size, 0, none⟩)) (by simp only [execOp]; simp [go_sem]) ⟨_, rfl, ⟨u.heap.size, rfl, hu.size, MBox.new u 0 0 none 0 0 _, noB_new u _⟩, (Bl.refl _).alloc _⟩
          · simp only [List.getElem?_toArray, List.getElem?_cons_zero, List.getElem?_cons_succ, Option.some.injEq] at ho
            subst ho
            cases hdt
        case still =>
          intro j o t act u0 u ho hdt hpu
          cases hpu
        case store =>
          intro o act u vs ho hsz hu hfr hin
          simp only [List.getElem?_toArray, List.getElem?_cons_zero, List.getElem?_cons_succ, Option.some.injEq] at ho
          subst ho
          obtain ⟨i17, k17⟩ : act.eval (.tmp (17 : Nat)) = vs 6 ∧ (∃ b, (vs 6) = .pointer (some ⟨b, 0, none⟩) ∧ w7.heap.size ≤ b ∧ MBox u b 0 0 none 0 0 ∧ NoB u b) := hin 6 17 rfl rfl
          obtain ⟨i66, k66⟩ : act.eval (.tmp (66 : Nat)) = vs 5 ∧ (∃ q c, (vs 5) = mV n n q N c ∧ Mx 3 cellsF u n n q N c (aroundJ kdF n mm P) ∧ Fresh w7.heap.size (.slice q N c)) := hin 5 66 rfl rfl
          obtain ⟨b, e1, hb, bx, nb⟩ := k17
          obtain ⟨q0, c0', e2, hq, hf⟩ := k66
          rw [e1] at i17
          rw [e2] at i66
          obtain ⟨d0, d1, d2, g0, g1, g2, ltb⟩ := id bx
          exact skip_wp (by intro c h; cases h) (fun _ _ => trivial) (by simp only [execOp, i17, i66]; simp [go_sem, d0, d1, d2, g0, g1, g2]) ⟨rfl, b, q0, c0', e1, hb, bx.fill _ _ _ _ _, mx_ne7 hq (noB_mx boolF hq nb) _ _ _, hf, Bl.put3 hu hb _ _ _⟩
        case fin =>
          intro vs vb u0 u hu hin hps
          have a0 := hin 0 61 rfl
          have a1 := hin 1 62 rfl
          have a2 := hin 2 63 rfl
          have a3 := hin 3 64 rfl
          have a4 := hin 4 65 rfl
          have a5 := hin 5 66 rfl
          have a6 := hin 6 17 rfl
          simp only [putL, Act.put, List.setIfInBounds_toArray, List.set_cons_zero, List.set_cons_succ, Nat.zero_add, Nat.reduceAdd, Nat.reduceBEq, Bool.or_false, Bool.or_true, Bool.false_or, Bool.true_or, Bool.false_eq_true, if_false, if_true, reduceIte, Nat.reduceEqDiff, beq_self_eq_true, Bool.or_self] at a0 a1 a2 a3 a4 a5 a6 ⊢
          rw [if_pos (by decide)] at hps
          simp only [a0, a1, a3, a4]
          obtain ⟨b17, p8, c8, e6, hb17, k17, hM8, hF8, hbu⟩ := hps
          simp only [e6]
          obtain ⟨wv, rfl⟩ : ∃ wv, wv = u := ⟨_, rfl⟩
          have HM8 := hideP hM8
          have HF8 := hideP hF8
          clear a2 a5 a6 hM8 hF8 hu hin RST
          have bv := b37.trans hbu
          obtain ⟨c0, c1, c2, f0, f1, f2, ltr⟩ := r0.later (b3.trans bv)
          have SC := hideP (scale_linF pk n ck kk r wv (HK.out.later (h67.trans hbu)) hn6)
          go_wp2_with fail
          refine SC.out.mono ?_
          rintro e wa ⟨pr, cr, rfl, hRr, ha⟩
          have HRR := hideP hRr
          clear hRr c0 c1 c2 f0 f1 f2 ltr SC
          have OU := hideP (jOuterF n n N pr cr (fun i => mulR (kk i) r) pk ck kk wa HRR.out.q (HK.out.later (h67.trans (hbu.trans ha))).q HD.out HN.out)
          go_wp2_with fail
          refine OU.out.mono ?_
          rintro e w8 ⟨p9, c9, rfl, ⟨h9x, hF9⟩, h8⟩
          obtain ⟨W9, hW9⟩ : ∃ W9, W9 = w8.alloc (.cells #[.int .i64 n, .int .i64 n, .slice p9 N c9] 30) := ⟨_, rfl⟩
          have b9 : Bl w8 W9 := by rw [hW9]; exact (Bl.refl _).alloc _
          have k18 := MBox.new w8 n n p9 N c9 30
          rw [← hW9] at k18
          have b79 : Bl w7 W9 := hbu.trans (ha.trans (h8.trans b9))
          have B9 := B7.trans b79
          have hs9 := b79.size
          have hsv := hbu.size
          have hsa := (hbu.trans ha).size
          replace k17 := k17.later (ha.trans (h8.trans b9))
          have ke9 := ke7.later b79
          have ka9 := ka7.later b79
          have hlt17 := k17.lt
          have hlt18 := k18.lt
          have hltE := ke9.lt
          have hltA := ka9.lt
          have SZ0 := hideP (sz0.later (b3.trans (b37.trans b79)))
          have NZ0 := hideP (nz0.later (b3.trans (b37.trans b79)))
          have h8lo : w7.heap.size ≤ w8.heap.size := by have := (ha.trans h8).size; omega
          have MIR := hideP (fun u (hu : (TwoJ (w.heap.size + 1 + 1 + 1) (w.heap.size + 1 + 1 + 1 + 1) (fun y => ∃ q c, SBox y (w.heap.size + 1 + 1 + 1) px' n cx' n n q N c ∧ Mx 3 cellsF y n n q N c PP ∧ Fresh W9.heap.size (.slice q N c)) (fun y => NBoxF y (w.heap.size + 1 + 1 + 1 + 1) e9 a)) W9 u) => by
            have := jMirroredF n N p8 c8 (aroundJ kdF n mm P) p9 c9 (outerJ kdF (fun i => mulR (kk i) r) kk) u ((Mx.later HM8.out (ha.trans (h8.trans b9))).but hu.but (fun g hg => by have := HF8.out g hg; show ¬ (_ = _ ∨ _ = _); omega)) ((Mx.later h9x b9).but hu.but (fun g hg => by have := hF9 g hg; show ¬ (_ = _ ∨ _ = _); omega))
            rw [← HPP.out] at this
            exact this)
          have HW9 := hideP hW9
          clear hW9 OU h9x hF9
          go_wp2_with fail
          rw [← HW9.out]
          refine (wpIn_wide (n := 8)).1 (region_r fm (TwoJ (w.heap.size + 1 + 1 + 1) (w.heap.size + 1 + 1 + 1 + 1) (fun y => ∃ q c, SBox y (w.heap.size + 1 + 1 + 1) px' n cx' n n q N c ∧ Mx 3 cellsF y n n q N c PP ∧ Fresh W9.heap.size (.slice q N c)) (fun y => NBoxF y (w.heap.size + 1 + 1 + 1 + 1) e9 a)) [some 72, some 73, some 74, some 75, some 76, some 77, some 78, some 79, none, none, some 10] (by kernel_rfl) (by rfl) (TwoJ.bl ((Bl.refl _).drew) (by omega) (by omega)) (fun h k => TwoJ.trans (fun x y t b e => by obtain ⟨q, c, t1, t2, t3⟩ := t; exact ⟨q, c, t1.heap e b.size, t2.but b (fun g hg => by have := t3 g hg; show ¬ (_ = _ ∨ _ = _); omega), t3⟩) (fun x y t b e => t.heap e b.size) h k)
                (fun j v u => match j with | 0 => v = .slice px' n cx' | 1 => v = mV n n p8 N c8 | 2 => v = mV n n p9 N c9 | 3 => ∃ q c, v = mV n n q N c ∧ Mx 3 cellsF u n n q N c PP ∧ Fresh W9.heap.size (.slice q N c) | 4 => ∃ q c, v = sJ px' n cx' n n q N c ∧ Mx 3 cellsF u n n q N c PP ∧ Fresh W9.heap.size (.slice q N c) | 5 => v = frV e9 | 6 => v = frV a | 7 => v = newsVF e9 a | 8 => ∃ q c, SBox u (w.heap.size + 1 + 1 + 1) px' n cx' n n q N c ∧ Mx 3 cellsF u n n q N c PP ∧ Fresh W9.heap.size (.slice q N c) | 9 => NBoxF u (w.heap.size + 1 + 1 + 1 + 1) e9 a | 10 => v = .bool true | _ => False)
                (by
                  intro j v u u' hb hr h
                  split at h
                  · exact h
                  · exact h
                  · exact h
                  · obtain ⟨q, c, e, h1, h2⟩ := h; exact ⟨q, c, e, Mx.but h1 hr.but (fun g hg => by have := h2 g hg; show ¬ (_ = _ ∨ _ = _); omega), h2⟩
                  · obtain ⟨q, c, e, h1, h2⟩ := h; exact ⟨q, c, e, Mx.but h1 hr.but (fun g hg => by have := h2 g hg; show ¬ (_ = _ ∨ _ = _); omega), h2⟩
                  · exact h
                  · exact h
                  · exact h
                  · rcases hr.g8 with e | t
                    · obtain ⟨q, c, h0, h1, h2⟩ := h
                      exact ⟨q, c, h0.heap e hr.but.size, Mx.but h1 hr.but (fun g hg => by have := h2 g hg; show ¬ (_ = _ ∨ _ = _); omega), h2⟩
                    · exact t
                  · rcases hr.l9 with e | t
                    · exact h.heap e hr.but.size
                    · exact t
                  · exact h
                  · exact h) ?step ?fin)
          case step =>
            intro j o act u ho hsz hu hfr hin hnon
            have hj : j < 11 := (Array.getElem?_eq_some_iff.1 ho).1
            obtain ⟨x0, x1, x2, _, _, _, _⟩ := k17.but hu.but (by show ¬ (_ = _ ∨ _ = _); omega)
            obtain ⟨y0, y1, y2, _, _, _, _⟩ := k18.but hu.but (by show ¬ (_ = _ ∨ _ = _); omega)
            have cE0 : u.cell? ⟨b15, 0, none⟩ = some (.int .i64 e9.n) := (hu.but.cell _ _ (by omega) (by show ¬ (_ = _ ∨ _ = _); omega)).trans ke9.c0
            have cE1 : u.cell? ⟨b15, 1, none⟩ = some (.int .i64 e9.d) := (hu.but.cell _ _ (by omega) (by show ¬ (_ = _ ∨ _ = _); omega)).trans ke9.c1
            have cE2 : u.cell? ⟨b15, 2, none⟩ = some (.bool e9.bad) := (hu.but.cell _ _ (by omega) (by show ¬ (_ = _ ∨ _ = _); omega)).trans ke9.c2
            have cA0 : u.cell? ⟨b13, 0, none⟩ = some (.int .i64 a.n) := (hu.but.cell _ _ (by omega) (by show ¬ (_ = _ ∨ _ = _); omega)).trans ka9.c0
            have cA1 : u.cell? ⟨b13, 1, none⟩ = some (.int .i64 a.d) := (hu.but.cell _ _ (by omega) (by show ¬ (_ = _ ∨ _ = _); omega)).trans ka9.c1
            have cA2 : u.cell? ⟨b13, 2, none⟩ = some (.bool a.bad) := (hu.but.cell _ _ (by omega) (by show ¬ (_ = _ ∨ _ = _); omega)).trans ka9.c2
            rcases (by omega : j = 0 ∨ j = 1 ∨ j = 2 ∨ j = 3 ∨ j = 4 ∨ j = 5 ∨ j = 6 ∨ j = 7 ∨ j = 8 ∨ j = 9 ∨ j = 10) with rfl | rfl | rfl | rfl | rfl | rfl | rfl | rfl | rfl | rfl | rfl
            · simp only [List.getElem?_toArray, List.getElem?_cons_zero, List.getElem?_cons_succ, Option.some.injEq] at ho
              subst ho
              have i16 : act.eval (.tmp (16 : Nat)) = .slice px' n cx' := hfr 16 (by decide)
              exact plain_wp (by intro c h; cases h) (fun _ _ => trivial) (by simp only [execOp, i16, evalC, evalF, evalG]; simp [go_sem]) ⟨_, rfl, rfl, TwoJ.bl (Bl.refl _) (by have := hu.but.size; omega) (by have := hu.but.size; omega)⟩
            · simp only [List.getElem?_toArray, List.getElem?_cons_zero, List.getElem?_cons_succ, Option.some.injEq] at ho
              subst ho
              have i17 : act.eval (.tmp (17 : Nat)) = .pointer (some ⟨b17, 0, none⟩) := hfr 17 (by decide)
              exact plain_wp (by intro c h; cases h) (fun _ _ => trivial) (by simp only [execOp, i17, evalC, evalF, evalG]; simp [go_sem, x0, x1, x2]) ⟨_, rfl, rfl, TwoJ.bl (Bl.refl _) (by have := hu.but.size; omega) (by have := hu.but.size; omega)⟩
            · simp only [List.getElem?_toArray, List.getElem?_cons_zero, List.getElem?_cons_succ, Option.some.injEq] at ho
              subst ho
              have i18 : act.eval (.tmp (18 : Nat)) = .pointer (some ⟨w8.heap.size, 0, none⟩) := hfr 18 (by decide)
              exact plain_wp (by intro c h; cases h) (fun _ _ => trivial) (by simp only [execOp, i18, evalC, evalF, evalG]; simp [go_sem, y0, y1, y2]) ⟨_, rfl, rfl, TwoJ.bl (Bl.refl _) (by have := hu.but.size; omega) (by have := hu.but.size; omega)⟩
            · simp only [List.getElem?_toArray, List.getElem?_cons_zero, List.getElem?_cons_succ, Option.some.injEq] at ho
              subst ho
              have i73 : (act.eval (.tmp (73 : Nat))) = mV n n p8 N c8 := hin ⟨1, .data⟩ (by simp) rfl 73 rfl
              have i74 : (act.eval (.tmp (74 : Nat))) = mV n n p9 N c9 := hin ⟨2, .data⟩ (by simp) rfl 74 rfl
              refine enter_wp 46 #[mV n n p8 N c8, mV n n p9 N c9] (by intro c h; cases h) (fun _ _ => trivial) (by simp only [execOp, evalC, evalF, evalG, resolve, i73, i74, List.map_toArray, List.map_cons, List.map_nil]; simp [invoke, egM, Result.andThen, go_sem]) (by intro h; cases h) (callsIn_wide.2 (MIR.out u hu)) ?_
              rintro e w' ⟨q, c, rfl, ⟨hM, hF⟩, hb⟩
              exact ⟨_, rfl, _, rfl, ⟨q, c, rfl, hM, fresh_le hF hu.but.size⟩, TwoJ.bl hb (by have := hu.but.size; omega) (by have := hu.but.size; omega)⟩
            · simp only [List.getElem?_toArray, List.getElem?_cons_zero, List.getElem?_cons_succ, Option.some.injEq] at ho
              subst ho
              have i72 : (act.eval (.tmp (72 : Nat))) = .slice px' n cx' := hin ⟨0, .data⟩ (by simp) rfl 72 rfl
              have i75 : ∃ q c, (act.eval (.tmp (75 : Nat))) = mV n n q N c ∧ Mx 3 cellsF u n n q N c PP ∧ Fresh W9.heap.size (.slice q N c) := hin ⟨3, .data⟩ (by simp) rfl 75 rfl
              obtain ⟨q0, c0', e1, hq⟩ := i75
              exact plain_wp (by intro c h; cases h) (fun _ _ => trivial) (by simp only [execOp, List.map_toArray, List.map_cons, List.map_nil, e1, i72]; simp [Tryz.buildSF, Result.andThen, go_sem]) ⟨_, rfl, ⟨q0, c0', rfl, hq⟩, TwoJ.bl (Bl.refl _) (by have := hu.but.size; omega) (by have := hu.but.size; omega)⟩
            · simp only [List.getElem?_toArray, List.getElem?_cons_zero, List.getElem?_cons_succ, Option.some.injEq] at ho
              subst ho
              have i15 : act.eval (.tmp (15 : Nat)) = .pointer (some ⟨b15, 0, none⟩) := hfr 15 (by decide)
              exact plain_wp (by intro c h; cases h) (fun _ _ => trivial) (by simp only [execOp, i15, evalC, evalF, evalG]; simp [go_sem, cE0, cE1, cE2]) ⟨_, rfl, rfl, TwoJ.bl (Bl.refl _) (by have := hu.but.size; omega) (by have := hu.but.size; omega)⟩
            · simp only [List.getElem?_toArray, List.getElem?_cons_zero, List.getElem?_cons_succ, Option.some.injEq] at ho
              subst ho
              have i13 : act.eval (.tmp (13 : Nat)) = .pointer (some ⟨b13, 0, none⟩) := hfr 13 (by decide)
              exact plain_wp (by intro c h; cases h) (fun _ _ => trivial) (by simp only [execOp, i13, evalC, evalF, evalG]; simp [go_sem, cA0, cA1, cA2]) ⟨_, rfl, rfl, TwoJ.bl (Bl.refl _) (by have := hu.but.size; omega) (by have := hu.but.size; omega)⟩
            · simp only [List.getElem?_toArray, List.getElem?_cons_zero, List.getElem?_cons_succ, Option.some.injEq] at ho
              subst ho
              have i77 : (act.eval (.tmp (77 : Nat))) = frV e9 := hin ⟨5, .data⟩ (by simp) rfl 77 rfl
              have i78 : (act.eval (.tmp (78 : Nat))) = frV a := hin ⟨6, .data⟩ (by simp) rfl 78 rfl
              exact plain_wp (by intro c h; cases h) (fun _ _ => trivial) (by simp only [execOp, List.map_toArray, List.map_cons, List.map_nil, i77, i78]; simp [Tryz.buildNF, Result.andThen, go_sem]) ⟨_, rfl, rfl, TwoJ.bl (Bl.refl _) (by have := hu.but.size; omega) (by have := hu.but.size; omega)⟩
            · simp only [List.getElem?_toArray, List.getElem?_cons_zero, List.getElem?_cons_succ, Option.some.injEq] at ho
              subst ho
              have i8 : act.eval (.tmp (8 : Nat)) = .pointer (some ⟨w.heap.size + 1 + 1 + 1, 0, none⟩) := hfr 8 (by decide)
              have i76 : ∃ q c, (act.eval (.tmp (76 : Nat))) = sJ px' n cx' n n q N c ∧ Mx 3 cellsF u n n q N c PP ∧ Fresh W9.heap.size (.slice q N c) := hin ⟨4, .data⟩ (by simp) rfl 76 rfl
              obtain ⟨q0, c0', e1, hq, hf⟩ := i76
              obtain ⟨qa, qb, qc, qd, qe, qf, qg, qh, sx⟩ : ∃ px nx cx r c p n cap, SBox u (w.heap.size + 1 + 1 + 1) px nx cx r c p n cap := by
                rcases hu.g8 with e | ⟨_, _, s, _⟩
                · exact ⟨_, _, _, _, _, _, _, _, SZ0.out.heap e hu.but.size⟩
                · exact ⟨_, _, _, _, _, _, _, _, s⟩
              have HQ := hideP hq
              have SX := hideP sx
              obtain ⟨d0, d1, d2, d3, g0, g1, g2, g3, ltd⟩ := id sx
              have F8 := fun (X : World) (hX : X = ((((u.setCell ⟨w.heap.size + 1 + 1 + 1, 0, none⟩ (.slice px' n cx')).setCell ⟨w.heap.size + 1 + 1 + 1, 1, none⟩ (.int .i64 n)).setCell ⟨w.heap.size + 1 + 1 + 1, 2, none⟩ (.int .i64 n)).setCell ⟨w.heap.size + 1 + 1 + 1, 3, none⟩ (.slice q0 N c0'))) => (show ∃ q c, SBox X (w.heap.size + 1 + 1 + 1) px' n cx' n n q N c ∧ Mx 3 cellsF X n n q N c PP ∧ Fresh W9.heap.size (.slice q N c) from by rw [hX]; exact ⟨q0, c0', SX.out.fill _ _ _ _ _ _ _ _, mx_put4 HQ.out (fresh_le hf (by omega)) _ _ _ _, hf⟩)
              exact skip_wp (by intro c h; cases h) (fun _ _ => trivial) (by simp only [execOp, i8, e1]; simp [go_sem, d0, d1, d2, d3, g0, g1, g2, g3]) ⟨undef, rfl, F8 _ rfl, ⟨(((but_cell1 (.inl rfl) _ _ _).trans (but_cell1 (.inl rfl) _ _ _)).trans (but_cell1 (.inl rfl) _ _ _)).trans (but_cell1 (.inl rfl) _ _ _), .inr (F8 _ rfl), .inl (by rw [heap1 _ (by omega), heap1 _ (by omega), heap1 _ (by omega), heap1 _ (by omega)])⟩⟩
            · simp only [List.getElem?_toArray, List.getElem?_cons_zero, List.getElem?_cons_succ, Option.some.injEq] at ho
              subst ho
              have i9 : act.eval (.tmp (9 : Nat)) = .pointer (some ⟨w.heap.size + 1 + 1 + 1 + 1, 0, none⟩) := hfr 9 (by decide)
              have i79 : (act.eval (.tmp (79 : Nat))) = newsVF e9 a := hin ⟨7, .data⟩ (by simp) rfl 79 rfl
              obtain ⟨x', y', nx⟩ : ∃ x y, NBoxF u (w.heap.size + 1 + 1 + 1 + 1) x y := by
                rcases hu.l9 with e | t
                · exact ⟨_, _, NZ0.out.heap e hu.but.size⟩
                · exact ⟨_, _, t⟩
              have NX := hideP nx
              obtain ⟨d0, d1, d2, d3, d4, d5, g0, g1, g2, g3, g4, g5, ltd⟩ := id nx
              exact skip_wp (by intro c h; cases h) (fun _ _ => trivial) (by simp only [execOp, i9, i79]; simp [go_sem, d0, d1, d2, d3, d4, d5, g0, g1, g2, g3, g4, g5]) ⟨undef, rfl, NX.out.fill e9 a, ⟨(((((but_cell1 (.inr rfl) _ _ _).trans (but_cell1 (.inr rfl) _ _ _)).trans (but_cell1 (.inr rfl) _ _ _)).trans (but_cell1 (.inr rfl) _ _ _)).trans (but_cell1 (.inr rfl) _ _ _)).trans (but_cell1 (.inr rfl) _ _ _), .inl (by rw [heap1 _ (by omega), heap1 _ (by omega), heap1 _ (by omega), heap1 _ (by omega), heap1 _ (by omega), heap1 _ (by omega)]), .inr (NX.out.fill e9 a)⟩⟩
            · simp only [List.getElem?_toArray, List.getElem?_cons_zero, List.getElem?_cons_succ, Option.some.injEq] at ho
              subst ho
              exact plain_wp (by intro c h; cases h) (fun _ _ => trivial) (by simp only [execOp, evalC, evalF, evalG]; simp [go_sem]) ⟨_, rfl, rfl, TwoJ.bl (Bl.refl _) (by have := hu.but.size; omega) (by have := hu.but.size; omega)⟩
          case fin =>
            intro vs u hu hin hnon
            have a0 := hin 0 72 rfl
            have a1 := hin 1 73 rfl
            have a2 := hin 2 74 rfl
            have a3 := hin 3 75 rfl
            have a4 := hin 4 76 rfl
            have a5 := hin 5 77 rfl
            have a6 := hin 6 78 rfl
            have a7 := hin 7 79 rfl
            have a8 := hnon 8 rfl
            have a9 := hnon 9 rfl
            have a10 := hin 10 10 rfl
            simp only [putL, Act.put, List.setIfInBounds_toArray, List.set_cons_zero, List.set_cons_succ, Nat.zero_add, Nat.reduceAdd, if_true, reduceIte] at a0 a1 a2 a3 a4 a5 a6 a7 a8 a9 a10 ⊢
            simp only [a0, a1, a2, a5, a6, a7, a10]
            obtain ⟨q, c, sx, hM, hF⟩ := a8
            obtain ⟨d0, d1, d2, d3, _, _, _, _, _⟩ := sx
            obtain ⟨n0, n1, n2, n3, n4, n5, _, _, _, _, _, _, _⟩ := a9
            have HM := hideP hM
            have HRW := hideP ((HRX.out.later b79).but hu.but (fun g hg => by have := HFX.out g hg; show ¬ (_ = _ ∨ _ = _); omega))
            have HFN := hideP hF
            clear a3 a4 hM hF hin hnon
            go_wp2
            simp [bodyPost, results, Tryz.results15, go_sem, d0, d1, d2, d3, n0, n1, n2, n3, n4, n5]
            refine ⟨px', cx', q, c, by simp, ⟨?_, HM.out, fresh_le HFX.out (by omega), fresh_le HFN.out (by omega)⟩, hu.but.bl B9 (fun i hi => by rcases hi with h | h <;> omega)⟩
            rw [HUX.out]
            exact HRW.out
end Go.Proofs.YtljmggemdkfbiaaGreat
