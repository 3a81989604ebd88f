/- Contract of root's Update, of fractions (layer 10). Written by genRo.py. -/
import Derived.Test.YtljmggemdkfbiaaGreatRoNF
import Derived.Test.YtljmggemdkfbiaaGreatRoCF
import Derived.Test.YtljmggemdkfbiaaGreatRoSF
import Derived.Test.YtljmggemdkfbiaaGreatJoEF
namespace Go.Proofs.YtljmggemdkfbiaaGreat
open Go.RowKit
set_option linter.unusedSimpArgs false
set_option linter.unusedVariables false

set_option maxRecDepth 100000 in
set_option maxHeartbeats 8000000 in
theorem rUpdateF (n N : Nat) (px : Option Addr) (cx : Nat) (x : Nat → Fr) (p : Option Addr) (cap : Nat) (S : Nat → Nat → Fr) (ph : Option Addr) (ch : Nat) (h : Nat → Fr) (r z : Fr) (w : World)
    (hx : Rq 3 cellsF w (.slice px n cx) (linJ n x)) (hP : Mx 3 cellsF w n n p N cap S) (hh : Rq 3 cellsF w (.slice ph n ch) (linJ n h)) (h4 : n ≤ 4) :
    Calls Tryz.prog 27 #[sJ px n cx n n p N cap, .slice ph n ch, frV r, frV z] w fun e w' => ∃ q c p' c', e = .returned (.tuple #[sJ q n c n n p' N c', newsVF (surpJ kdF n x h z) (runO kdF n S h r n).a, .bool true]) ∧ (Rw 3 cellsF w' (.slice q n c) (linJ n fun i => addR (x i) (mulR (divR ((runO kdF n S h r n).e i) (runO kdF n S h r n).a) (surpJ kdF n x h z))) ∧ Mx 3 cellsF w' n n p' N c' (runO kdF n S h r n).s ∧ Fresh w.heap.size (.slice q n c) ∧ Fresh w.heap.size (.slice p' N c')) ∧ Bl w w' := by
  have fm : Tryz.prog.follows .mixedOrders = true := by kernel_rfl
  have egD := enters_of Tryz.func47 (by kernel_rfl) rfl
  have egS := enters_of Tryz.func192 (by kernel_rfl) rfl
  have egC := enters_of Tryz.func50 (by kernel_rfl) rfl
  have egV := enters_of Tryz.func49 (by kernel_rfl) rfl
  have hfit := fitJ_dim hP.1 hP.2.1 h4
  have hn6 : n ≤ 1000000 := by omega
  have hn1 : 1 ≤ n := hP.1.r1
  obtain ⟨T, hT⟩ : ∃ T, T = runO kdF n S h r n := ⟨_, rfl⟩
  obtain ⟨a, ha⟩ : ∃ a, a = T.a := ⟨_, rfl⟩
  obtain ⟨dx, hdx⟩ : ∃ dx, dx = dotF (linJ n h) (linJ n x) := ⟨_, rfl⟩
  obtain ⟨e9, he9⟩ : ∃ e9, e9 = subR z dx := ⟨_, rfl⟩
  have hsur : e9 = surpJ kdF n x h z := by rw [he9, hdx]; rfl
  obtain ⟨kk, hkk⟩ : ∃ kk, kk = fun i => divR (T.e i) a := ⟨_, rfl⟩
  have HUX := hideP (show (fun i => addR (x i) (mulR (divR (T.e i) a) e9)) = fun i => addR (x i) (mulR (kk i) e9) by rw [hkk])
  have DOX0 := hideP (fun (u : World) (h1 : Rq 3 cellsF u (.slice ph n ch) (linJ n h)) (h2 : Rq 3 cellsF u (.slice px n cx) (linJ n x)) => by have := vDotF (.slice ph n ch) (.slice px n cx) (linJ n h) (linJ n x) u h1 h2 (by rw [linJ_len]; exact hn6) (by rw [linJ_len]; exact hn6); rw [← hdx] at this; exact this)
  have SUB := hideP (fun u => by have := rsub_any z dx u; rw [← he9] at this; exact this)
  have TAK0 := hideP (fun (u : World) (h1 : Mx 3 cellsF u n n p N cap S) (h2 : Rq 3 cellsF u (.slice ph n ch) (linJ n h)) => by have := rTakenF n N p cap S ph ch h r u h1 h2; rw [← hT, ← ha] at this; exact this)
  rw [← hT, ← ha, ← hsur, HUX.out]
  have HKK := hideP (show linJ n kk = linJ n (fun i => divR (T.e i) a) by rw [hkk])
  clear hT ha hdx he9 hsur hkk
  obtain ⟨W, hW⟩ : ∃ W, W = ((((w.alloc (.cells #[.slice px n cx, .int .i64 n, .int .i64 n, .slice p N cap] 63)).alloc (.cells #[.int .i64 r.n, .int .i64 r.d, .bool r.bad] 34)).alloc (.cells #[.int .i64 z.n, .int .i64 z.d, .bool z.bad] 34)).alloc (.cells #[.slice none 0 0, .int .i64 0, .int .i64 0, .slice none 0 0] 63)).alloc (.cells #[.int .i64 0, .int .i64 0, .bool false, .int .i64 0, .int .i64 0, .bool false] 41) := ⟨_, rfl⟩
  have b0 : Bl w W := by rw [hW]; exact (((((Bl.refl _).alloc _).alloc _).alloc _).alloc _).alloc _
  have s0 : SBox W w.heap.size px n cx n n p N cap := by rw [hW]; exact (SBox.new w _ _ _ _ _ _ _ _ _).later (((((Bl.refl _).alloc _).alloc _).alloc _).alloc _)
  have r0 : FBox W (w.heap.size + 1) r := by rw [hW]; have := FBox.new (w.alloc (.cells #[.slice px n cx, .int .i64 n, .int .i64 n, .slice p N cap] 63)) r 34; simp only [World.size_alloc] at this; exact this.later ((((Bl.refl _).alloc _).alloc _).alloc _)
  have z0 : FBox W (w.heap.size + 1 + 1) z := by rw [hW]; have := FBox.new ((w.alloc (.cells #[.slice px n cx, .int .i64 n, .int .i64 n, .slice p N cap] 63)).alloc (.cells #[.int .i64 r.n, .int .i64 r.d, .bool r.bad] 34)) z 34; simp only [World.size_alloc] at this; exact this.later (((Bl.refl _).alloc _).alloc _)
  have sz0 : SBox W (w.heap.size + 1 + 1 + 1) none 0 0 0 0 none 0 0 := by rw [hW]; have := SBox.new (((w.alloc (.cells #[.slice px n cx, .int .i64 n, .int .i64 n, .slice p N cap] 63)).alloc (.cells #[.int .i64 r.n, .int .i64 r.d, .bool r.bad] 34)).alloc (.cells #[.int .i64 z.n, .int .i64 z.d, .bool z.bad] 34)) none 0 0 0 0 none 0 0 63; simp only [World.size_alloc] at this; exact this.later ((Bl.refl _).alloc _)
  have nz0 : NBoxF W (w.heap.size + 1 + 1 + 1 + 1) zeroR zeroR := by rw [hW]; have := NBoxF.new ((((w.alloc (.cells #[.slice px n cx, .int .i64 n, .int .i64 n, .slice p N cap] 63)).alloc (.cells #[.int .i64 r.n, .int .i64 r.d, .bool r.bad] 34)).alloc (.cells #[.int .i64 z.n, .int .i64 z.d, .bool z.bad] 34)).alloc (.cells #[.slice none 0 0, .int .i64 0, .int .i64 0, .slice none 0 0] 63)) zeroR zeroR 41; simp only [World.size_alloc] at this; exact this
  have hs : W.heap.size = w.heap.size + 1 + 1 + 1 + 1 + 1 := by rw [hW]; simp
  have HX := hideP hx
  have HD := hideP hP.1
  have HN := hideP hP.2.1
  have HP := hideP hP
  have HH := hideP hh
  have HW := hideP hW
  obtain ⟨d0, d1, d2, d3, _, _, _, _, _⟩ := id s0
  rw [hW] at d0 d1 d2 d3
  clear hW hx hP hh
  go_enter Tryz.func27, Tryz.ntmps27
  go_wp2_with fail
  try simp only [World.size_alloc]
  rw [← HW.out]
  refine (rRightF _ _ _ _ _ _ _ _ _).mono ?_
  rintro e w1 ⟨rfl, h1⟩
  rw [hfit]
  clear d0 d1 d2 d3
  obtain ⟨d0, d1, d2, d3, _, _, _, _, _⟩ := s0.later h1
  obtain ⟨c0, c1, c2, f0, f1, f2, _⟩ := r0.later h1
  go_wp2_with fail
  refine (TAK0.out w1 (HP.out.later (b0.trans h1)) (HH.out.later (b0.trans h1))).mono ?_
  rintro e w3 ⟨g, gc, ge, gce, rfl, ⟨hZs, hZe⟩, h3⟩
  clear d0 d1 d2 d3 c0 c1 c2 f0 f1 f2 TAK0
  obtain ⟨W3, hW3⟩ : ∃ W3, W3 = (w3.alloc (.cells #[.int .i64 n, .int .i64 n, .slice (some ⟨g, 0, none⟩) N gc] 30)).alloc (.cells #[.int .i64 a.n, .int .i64 a.d, .bool a.bad] 34) := ⟨_, rfl⟩
  have b3' : Bl w3 W3 := by rw [hW3]; exact ((Bl.refl _).alloc _).alloc _
  have b3W : Bl W W3 := h1.trans (h3.trans b3')
  have B3 : Bl w W3 := b0.trans b3W
  have hs3 : W3.heap.size = w3.heap.size + 1 + 1 := by rw [hW3]; simp
  have hs31 : w.heap.size + 1 + 1 + 1 + 1 + 1 ≤ w3.heap.size := by have := (h1.trans h3).size; omega
  have k11' : MBox W3 w3.heap.size n n (some ⟨g, 0, none⟩) N gc := by rw [hW3]; exact (MBox.new w3 _ _ _ _ _ _).later ((Bl.refl _).alloc _)
  have ka' : FBox W3 (w3.heap.size + 1) a := by rw [hW3]; have := FBox.new (w3.alloc (.cells #[.int .i64 n, .int .i64 n, .slice (some ⟨g, 0, none⟩) N gc] 30)) a 34; simp only [World.size_alloc] at this; exact this
  have HZS := hideP ((hZs.later b3'))
  have gfr : ∀ b, (Value.slice (some ⟨g, 0, none⟩) N gc).ownBlock = some b → w1.heap.size ≤ b := hZs.fresh
  have SH := hideP (rSharesF n (some ⟨ge, 0, none⟩) gce T.e a W3 (hZe.later b3').rw hn6)
  obtain ⟨d0, d1, d2, g0, g1, g2, _⟩ := id ka'
  have HW3 := hideP hW3
  rw [hW3] at d0 d1 d2
  clear hW3 hZs hZe
  go_wp2_with fail
  rw [← HW3.out]
  refine SH.out.mono ?_
  rintro e w5 ⟨pk, ck, rfl, ⟨hRk, _⟩, h5⟩
  have HK5 := hideP (show Rw 3 cellsF w5 (.slice pk n ck) (linJ n kk) from by rw [HKK.out]; exact hRk)
  have B5 := B3.trans h5
  have b35 : Bl W3 w5 := h5
  have kz := z0.later (b3W.trans h5)
  have ks := s0.later (b3W.trans h5)
  have hs5 := b35.size
  have DOX := hideP (fun u (hu : Bl w5 u) => DOX0.out u (HH.out.later (B5.trans hu)) (HX.out.later (B5.trans hu)))
  obtain ⟨b11, hb11⟩ : ∃ b11, b11 = w3.heap.size := ⟨_, rfl⟩
  obtain ⟨b13, hb13⟩ : ∃ b13, b13 = w3.heap.size + 1 := ⟨_, rfl⟩
  have k11 : MBox W3 b11 n n (some ⟨g, 0, none⟩) N gc := by rw [hb11]; exact k11'
  have ka : FBox W3 b13 a := by rw [hb13]; exact ka'
  clear d0 d1 d2 g0 g1 g2 hRk SH DOX0 k11' ka'
  go_wp2_with fail
  try simp only [← hb13]
  try simp only [← hb11]
  refine (wpIn_wide (n := 8)).1 (region_q fm [some 42, some 43, some 44, some 45, some 46, some 47, some 48, some 15, none] (fun _ => false) 8 (by kernel_rfl) (by rfl)
    (fun j v u => match j with | 0 => v = frV z | 1 => v = .iface 34 (frV z) | 2 => v = .slice ph n ch | 3 => v = .pointer (some ⟨w.heap.size, 0, none⟩) | 4 => v = .slice px n cx | 5 => v = frV dx | 6 => v = frV e9 | 7 => ∃ b, v = .pointer (some ⟨b, 0, none⟩) ∧ w5.heap.size ≤ b ∧ FBox u b zeroR | _ => False)
    (by
        intro j v u u' hb h
        split at h <;> first | exact h | (obtain ⟨b, e, h1, h2⟩ := h; exact ⟨b, e, h1, h2.later hb⟩) | (obtain ⟨q, c, e, h1⟩ := h; exact ⟨q, c, e, h1.later hb⟩)) (fun vs u0 u => ∃ b, vs 7 = .pointer (some ⟨b, 0, none⟩) ∧ w5.heap.size ≤ b ∧ FBox u b e9 ∧ Bl w5 u) ?step ?still ?store ?fin)
  case step =>
    intro j o t act u ho hdt hpu hsz hu hfr hin
    have hj : j < 9 := (Array.getElem?_eq_some_iff.1 ho).1
    obtain ⟨c0, c1, c2, f0, f1, f2, ltr⟩ := kz.later hu
    obtain ⟨y0, y1, y2, y3, _, _, _, _, _⟩ := ks.later hu
    rcases (by omega : j = 0 ∨ j = 1 ∨ j = 2 ∨ j = 3 ∨ j = 4 ∨ j = 5 ∨ j = 6 ∨ j = 7 ∨ j = 8) with rfl | rfl | rfl | rfl | rfl | rfl | rfl | rfl | rfl
    · simp only [List.getElem?_toArray, List.getElem?_cons_zero, List.getElem?_cons_succ, Option.some.injEq] at ho
      subst ho
      obtain rfl := Option.some.inj hdt
      have i7 : act.eval (.tmp (7 : Nat)) = .pointer (some ⟨w.heap.size + 1 + 1, 0, none⟩) := hfr 7 (by decide)
      exact plain_wp (by intro c h; cases h) (fun _ _ => trivial) (by simp only [execOp, i7, evalC, evalF, evalG]; simp [go_sem, c0, c1, c2]) ⟨_, rfl, rfl, Bl.refl _⟩
    · simp only [List.getElem?_toArray, List.getElem?_cons_zero, List.getElem?_cons_succ, Option.some.injEq] at ho
      subst ho
      obtain rfl := Option.some.inj hdt
      have i42 : (act.eval (.tmp (42 : Nat))) = frV z := hin ⟨0, .data⟩ (by simp) rfl 42 rfl
      exact plain_wp (by intro c h; cases h) (fun _ _ => trivial) (by simp only [execOp, i42, evalC, evalF, evalG]; simp [go_sem]) ⟨_, rfl, rfl, Bl.refl _⟩
    · simp only [List.getElem?_toArray, List.getElem?_cons_zero, List.getElem?_cons_succ, Option.some.injEq] at ho
      subst ho
      obtain rfl := Option.some.inj hdt
      have i1 : act.eval (.tmp (1 : Nat)) = .slice ph n ch := hfr 1 (by decide)
      exact plain_wp (by intro c h; cases h) (fun _ _ => trivial) (by simp only [execOp, i1, evalC, evalF, evalG]; simp [go_sem, y0]) ⟨_, rfl, rfl, Bl.refl _⟩
    · simp only [List.getElem?_toArray, List.getElem?_cons_zero, List.getElem?_cons_succ, Option.some.injEq] at ho
      subst ho
      obtain rfl := Option.some.inj hdt
      have i4 : act.eval (.tmp (4 : Nat)) = .pointer (some ⟨w.heap.size, 0, none⟩) := hfr 4 (by decide)
      exact plain_wp (by intro c h; cases h) (fun _ _ => trivial) (by simp only [execOp, i4, evalC, evalF, evalG]; simp [go_sem, y0, y1, y2, y3]) ⟨_, rfl, rfl, Bl.refl _⟩
    · simp only [List.getElem?_toArray, List.getElem?_cons_zero, List.getElem?_cons_succ, Option.some.injEq] at ho
      subst ho
      obtain rfl := Option.some.inj hdt
      have i45 : (act.eval (.tmp (45 : Nat))) = .pointer (some ⟨w.heap.size, 0, none⟩) := hin ⟨3, .data⟩ (by simp) rfl 45 rfl
      exact plain_wp (by intro c h; cases h) (fun _ _ => trivial) (by simp only [execOp, i45, evalC, evalF, evalG]; simp [go_sem, y0, y1, y2, y3]) ⟨_, rfl, rfl, Bl.refl _⟩
    · simp only [List.getElem?_toArray, List.getElem?_cons_zero, List.getElem?_cons_succ, Option.some.injEq] at ho
      subst ho
      obtain rfl := Option.some.inj hdt
      have i44 : (act.eval (.tmp (44 : Nat))) = .slice ph n ch := hin ⟨2, .data⟩ (by simp) rfl 44 rfl
      have i46 : (act.eval (.tmp (46 : Nat))) = .slice px n cx := hin ⟨4, .data⟩ (by simp) rfl 46 rfl
      refine enter_wp 47 #[.slice ph n ch, .slice px n cx] (by intro c h; cases h) (fun _ _ => trivial) (by simp only [execOp, evalC, evalF, evalG, resolve, i44, i46, List.map_toArray, List.map_cons, List.map_nil]; simp [invoke, egD, Result.andThen, go_sem]) (by intro h; cases h) (callsIn_wide.2 (DOX.out u hu)) ?_
      rintro e w' ⟨rfl, hb⟩
      exact ⟨_, rfl, _, rfl, rfl, hb⟩
    · simp only [List.getElem?_toArray, List.getElem?_cons_zero, List.getElem?_cons_succ, Option.some.injEq] at ho
      subst ho
      obtain rfl := Option.some.inj hdt
      have i43 : (act.eval (.tmp (43 : Nat))) = .iface 34 (frV z) := hin ⟨1, .data⟩ (by simp) rfl 43 rfl
      have i47 : (act.eval (.tmp (47 : Nat))) = frV dx := hin ⟨5, .data⟩ (by simp) rfl 47 rfl
      have iv := Tryz.mSubF
      refine enter_wp 192 #[frV z, frV dx] (by intro c h; cases h) (fun _ _ => trivial) (by simp only [execOp, evalC, evalF, evalG, resolve, i43, i47, List.map_toArray, List.map_cons, List.map_nil]; simp [invoke, iv, egS, Result.andThen, go_sem]) (by intro h; cases h) (callsIn_wide.2 (SUB.out u)) ?_
      rintro e w' ⟨rfl, hb⟩
      exact ⟨_, rfl, _, rfl, rfl, hb⟩
    · simp only [List.getElem?_toArray, List.getElem?_cons_zero, List.getElem?_cons_succ, Option.some.injEq] at ho
      subst ho
      obtain rfl := Option.some.inj hdt
      exact plain_wp (by intro c h; cases h) (fun _ _ => trivial) (w' := u.alloc (.cells #[.int .i64 0, .int .i64 0, .bool false] 34)) (v := .pointer (some ⟨u.heap.size, 0, none⟩)) (by simp only [execOp]; simp [go_sem]) ⟨_, rfl, ⟨u.heap.size, rfl, hu.size, FBox.new u zeroR _⟩, (Bl.refl _).alloc _⟩
    · simp only [List.getElem?_toArray, List.getElem?_cons_zero, List.getElem?_cons_succ, Option.some.injEq] at ho
      subst ho
      cases hdt
  case still =>
    intro j o t act u0 u ho hdt hpu
    cases hpu
  case store =>
    intro o act u vs ho hsz hu hfr hin
    simp only [List.getElem?_toArray, List.getElem?_cons_zero, List.getElem?_cons_succ, Option.some.injEq] at ho
    subst ho
    obtain ⟨i15, k15⟩ : act.eval (.tmp (15 : Nat)) = vs 7 ∧ (∃ b, (vs 7) = .pointer (some ⟨b, 0, none⟩) ∧ w5.heap.size ≤ b ∧ FBox u b zeroR) := hin 7 15 rfl rfl
    obtain ⟨i48, k48⟩ : act.eval (.tmp (48 : Nat)) = vs 6 ∧ ((vs 6) = frV e9) := hin 6 48 rfl rfl
    obtain ⟨b, e1, hb, bx⟩ := k15
    rw [e1] at i15
    replace i48 := i48.trans k48
    obtain ⟨c0, c1, c2, f0, f1, f2, ltb⟩ := id bx
    exact skip_wp (by intro c h; cases h) (fun _ _ => trivial) (by simp only [execOp, i15, i48]; simp [go_sem, zeroR, c0, c1, c2, f0, f1, f2]) ⟨rfl, b, e1, hb, bx.fill _, Bl.set3 hu hb _ _ _⟩
  case fin =>
    intro vs vb u0 u hu hin hps
    have a0 := hin 0 42 rfl
    have a1 := hin 1 43 rfl
    have a2 := hin 2 44 rfl
    have a3 := hin 3 45 rfl
    have a4 := hin 4 46 rfl
    have a5 := hin 5 47 rfl
    have a6 := hin 6 48 rfl
    have a7 := hin 7 15 rfl
    simp only [putL, Act.put, List.setIfInBounds_toArray, List.set_cons_zero, List.set_cons_succ, Nat.zero_add, Nat.reduceAdd, Nat.reduceBEq, Bool.or_false, Bool.or_true, Bool.false_or, Bool.true_or, Bool.false_eq_true, if_false, if_true, reduceIte, Nat.reduceEqDiff, beq_self_eq_true, Bool.or_self] at a0 a1 a2 a3 a4 a5 a6 a7 ⊢
    rw [if_pos (by decide)] at hps
    simp only [a0, a1, a2, a3, a4, a5, a6]
    obtain ⟨b15, e15, hb15, ke, hbu⟩ := hps
    simp only [e15]
    obtain ⟨w6, rfl⟩ : ∃ w6, w6 = u := ⟨_, rfl⟩
    clear a0 a1 a2 a3 a4 a5 a6 hu hin
    have B6 := B5.trans hbu
    have b36 := b35.trans hbu
    have ks6 := ks.later hbu
    have HK := hideP (HK5.out.later hbu)
    have hs6 := hbu.size
    clear DOX SUB kz ks
    go_wp2_with fail
    refine (wpIn_wide (n := 8)).1 (region_q fm [some 49, some 50, some 51, some 52, some 53, some 54, some 16] (fun _ => false) 7 (by kernel_rfl) (by rfl)
        (fun j v u => match j with | 0 => v = .pointer (some ⟨w.heap.size, 0, none⟩) | 1 => v = .slice px n cx | 2 => v = .slice pk n ck | 3 => v = frV e9 | 4 => ∃ q c, v = .slice q n c ∧ Rw 3 cellsF u (.slice q n c) (linJ n fun i => mulR (kk i) e9) | 5 => ∃ q c, v = .slice q n c ∧ Rw 3 cellsF u (.slice q n c) (linJ n fun i => addR (x i) (mulR (kk i) e9)) ∧ Fresh w6.heap.size (.slice q n c) | 6 => ∃ q c, v = .slice q n c ∧ Rw 3 cellsF u (.slice q n c) (linJ n fun i => addR (x i) (mulR (kk i) e9)) ∧ Fresh w6.heap.size (.slice q n c) | _ => False)
        (by
            intro j v u u' hb h
            split at h <;> first | exact h | (obtain ⟨q, c, e, h1, h2⟩ := h; exact ⟨q, c, e, h1.later hb, h2⟩) | (obtain ⟨q, c, e, h1⟩ := h; exact ⟨q, c, e, h1.later hb⟩)) (fun vs u0 u => u = u0) ?step ?still ?store ?fin)
    case step =>
      intro j o t act u ho hdt hpu hsz hu hfr hin
      have hj : j < 7 := (Array.getElem?_eq_some_iff.1 ho).1
      obtain ⟨c0, c1, c2, f0, f1, f2, ltr⟩ := ke.later hu
      obtain ⟨y0, y1, y2, y3, _, _, _, _, _⟩ := ks6.later hu
      rcases (by omega : j = 0 ∨ j = 1 ∨ j = 2 ∨ j = 3 ∨ j = 4 ∨ j = 5 ∨ j = 6) with rfl | rfl | rfl | rfl | rfl | rfl | rfl
      · simp only [List.getElem?_toArray, List.getElem?_cons_zero, List.getElem?_cons_succ, Option.some.injEq] at ho
        subst ho
        obtain rfl := Option.some.inj hdt
        have i4 : act.eval (.tmp (4 : Nat)) = .pointer (some ⟨w.heap.size, 0, none⟩) := hfr 4 (by decide)
        exact plain_wp (by intro c h; cases h) (fun _ _ => trivial) (by simp only [execOp, i4, evalC, evalF, evalG]; simp [go_sem, y0, y1, y2, y3]) ⟨_, rfl, rfl, Bl.refl _⟩
      · simp only [List.getElem?_toArray, List.getElem?_cons_zero, List.getElem?_cons_succ, Option.some.injEq] at ho
        subst ho
        obtain rfl := Option.some.inj hdt
        have i49 : (act.eval (.tmp (49 : Nat))) = .pointer (some ⟨w.heap.size, 0, none⟩) := hin ⟨0, .data⟩ (by simp) rfl 49 rfl
        exact plain_wp (by intro c h; cases h) (fun _ _ => trivial) (by simp only [execOp, i49, evalC, evalF, evalG]; simp [go_sem, y0, y1, y2, y3]) ⟨_, rfl, rfl, Bl.refl _⟩
      · simp only [List.getElem?_toArray, List.getElem?_cons_zero, List.getElem?_cons_succ, Option.some.injEq] at ho
        subst ho
        obtain rfl := Option.some.inj hdt
        have i14 : act.eval (.tmp (14 : Nat)) = .slice pk n ck := hfr 14 (by decide)
        exact plain_wp (by intro c h; cases h) (fun _ _ => trivial) (by simp only [execOp, i14, evalC, evalF, evalG]; simp [go_sem, y0]) ⟨_, rfl, rfl, Bl.refl _⟩
      · simp only [List.getElem?_toArray, List.getElem?_cons_zero, List.getElem?_cons_succ, Option.some.injEq] at ho
        subst ho
        obtain rfl := Option.some.inj hdt
        have i15 : act.eval (.tmp (15 : Nat)) = .pointer (some ⟨b15, 0, none⟩) := hfr 15 (by decide)
        exact plain_wp (by intro c h; cases h) (fun _ _ => trivial) (by simp only [execOp, i15, evalC, evalF, evalG]; simp [go_sem, c0, c1, c2]) ⟨_, rfl, rfl, Bl.refl _⟩
      · simp only [List.getElem?_toArray, List.getElem?_cons_zero, List.getElem?_cons_succ, Option.some.injEq] at ho
        subst ho
        obtain rfl := Option.some.inj hdt
        have i51 : (act.eval (.tmp (51 : Nat))) = .slice pk n ck := hin ⟨2, .data⟩ (by simp) rfl 51 rfl
        have i52 : (act.eval (.tmp (52 : Nat))) = frV e9 := hin ⟨3, .data⟩ (by simp) rfl 52 rfl
        refine enter_wp 50 #[.slice pk n ck, frV e9] (by intro c h; cases h) (fun _ _ => trivial) (by simp only [execOp, evalC, evalF, evalG, resolve, i51, i52, List.map_toArray, List.map_cons, List.map_nil]; simp [invoke, egC, Result.andThen, go_sem]) (by intro h; cases h) (callsIn_wide.2 (scale_linF pk n ck kk e9 u (HK.out.later hu) hn6)) ?_
        rintro e w' ⟨q, c, rfl, hR, hb⟩
        exact ⟨_, rfl, _, rfl, ⟨q, c, rfl, hR⟩, hb⟩
      · simp only [List.getElem?_toArray, List.getElem?_cons_zero, List.getElem?_cons_succ, Option.some.injEq] at ho
        subst ho
        obtain rfl := Option.some.inj hdt
        have i50 : (act.eval (.tmp (50 : Nat))) = .slice px n cx := hin ⟨1, .data⟩ (by simp) rfl 50 rfl
        have i53 : ∃ q c, (act.eval (.tmp (53 : Nat))) = .slice q n c ∧ Rw 3 cellsF u (.slice q n c) (linJ n fun i => mulR (kk i) e9) := hin ⟨4, .data⟩ (by simp) rfl 53 rfl
        obtain ⟨q0, c0', e1, hq⟩ := i53
        refine enter_wp 49 #[.slice px n cx, .slice q0 n c0'] (by intro c h; cases h) (fun _ _ => trivial) (by simp only [execOp, evalC, evalF, evalG, resolve, i50, e1, List.map_toArray, List.map_cons, List.map_nil]; simp [invoke, egV, Result.andThen, go_sem]) (by intro h; cases h) (callsIn_wide.2 (add_linF px q0 n cx c0' x _ u (HX.out.later (B6.trans hu)) hq.q hn6)) ?_
        rintro e w' ⟨q, c, rfl, ⟨hR, hF⟩, hb⟩
        exact ⟨_, rfl, _, rfl, ⟨q, c, rfl, hR, fresh_le hF hu.size⟩, hb⟩
      · simp only [List.getElem?_toArray, List.getElem?_cons_zero, List.getElem?_cons_succ, Option.some.injEq] at ho
        subst ho
        obtain rfl := Option.some.inj hdt
        have i54 : ∃ q c, (act.eval (.tmp (54 : Nat))) = .slice q n c ∧ Rw 3 cellsF u (.slice q n c) (linJ n fun i => addR (x i) (mulR (kk i) e9)) ∧ Fresh w6.heap.size (.slice q n c) := hin ⟨5, .data⟩ (by simp) rfl 54 rfl
        obtain ⟨q0, c0', e1, hq⟩ := i54
        exact plain_wp (by intro c h; cases h) (fun _ _ => trivial) (by simp only [execOp, e1, evalC, evalF, evalG]; simp [go_sem]) ⟨_, rfl, ⟨q0, c0', rfl, hq⟩, Bl.refl _⟩
    case still =>
      intro j o t act u0 u ho hdt hpu
      cases hpu
    case store =>
      intro o act u vs ho
      cases ho
    case fin =>
      intro vs vb u0 u hu hin hps
      have a0 := hin 0 49 rfl
      have a1 := hin 1 50 rfl
      have a2 := hin 2 51 rfl
      have a3 := hin 3 52 rfl
      have a4 := hin 4 53 rfl
      have a5 := hin 5 54 rfl
      have a6 := hin 6 16 rfl
      simp only [putL, Act.put, List.setIfInBounds_toArray, List.set_cons_zero, List.set_cons_succ, Nat.zero_add, Nat.reduceAdd, Nat.reduceBEq, Bool.or_false, Bool.or_true, Bool.false_or, Bool.true_or, Bool.false_eq_true, if_false, if_true, reduceIte, Nat.reduceEqDiff, beq_self_eq_true, Bool.or_self] at a0 a1 a2 a3 a4 a5 a6 ⊢
      rw [if_neg (by decide)] at hps
      simp only [a0, a1, a2, a3]
      subst hps
      obtain ⟨px', cx', e6, hRx, hFx⟩ := a6
      simp only [e6]
      obtain ⟨w7, rfl⟩ : ∃ w7, w7 = u := ⟨_, rfl⟩
      have HRX := hideP hRx
      have HFX := hideP hFx
      clear a4 a5 hRx hFx hin
      have B7 := B6.trans hu
      have b37 := b36.trans hu
      have ke7 := ke.later hu
      have ka7 := ka.later b37
      have k7 := k11.later b37
      have HZS7 := hideP (show Mx 3 cellsF w7 n n (some ⟨g, 0, none⟩) N gc T.s from ⟨HD.out, HN.out, ((HZS.out.later b37).rw).q⟩)
      have SZ0 := hideP (sz0.later (b3W.trans b37))
      have NZ0 := hideP (nz0.later (b3W.trans b37))
      have hs7 := hu.size
      have hs36 := b36.size
      have gl := HZS.out.fresh g rfl
      have l15 := ke7.lt
      have l13 := ka7.lt
      have hs1w := h1.size
      clear hu
      go_wp2_with fail
      refine (wpIn_wide (n := 8)).1 (region_r fm (TwoJ (w.heap.size + 1 + 1 + 1) (w.heap.size + 1 + 1 + 1 + 1) (fun y => SBox y (w.heap.size + 1 + 1 + 1) px' n cx' n n (some ⟨g, 0, none⟩) N gc) (fun y => NBoxF y (w.heap.size + 1 + 1 + 1 + 1) e9 a)) [some 55, some 56, some 57, some 58, some 59, some 60, none, none, some 10] (by kernel_rfl) (by rfl) (TwoJ.bl ((Bl.refl _).drew) (by omega) (by omega)) (fun h k => TwoJ.trans (fun x y t b e => t.heap e b.size) (fun x y t b e => t.heap e b.size) h k)
          (fun j v u => match j with | 0 => v = .slice px' n cx' | 1 => v = mV n n (some ⟨g, 0, none⟩) N gc | 2 => v = sJ px' n cx' n n (some ⟨g, 0, none⟩) N gc | 3 => v = frV e9 | 4 => v = frV a | 5 => v = newsVF e9 a | 6 => SBox u (w.heap.size + 1 + 1 + 1) px' n cx' n n (some ⟨g, 0, none⟩) N gc | 7 => NBoxF u (w.heap.size + 1 + 1 + 1 + 1) e9 a | 8 => v = .bool true | _ => False)
          (by
              intro j v u u' hb hr h
              split at h
              · exact h
              · exact h
              · exact h
              · exact h
              · exact h
              · exact h
              · rcases hr.g8 with e | t
                · exact h.heap e hr.but.size
                · exact t
              · rcases hr.l9 with e | t
                · exact h.heap e hr.but.size
                · exact t
              · exact h
              · exact h) ?step ?fin)
      case step =>
        intro j o act u ho hsz hu hfr hin hnon
        have hj : j < 9 := (Array.getElem?_eq_some_iff.1 ho).1
        obtain ⟨m0, m1, m2, _, _, _, _⟩ := k7.but hu.but (by show ¬ (_ = _ ∨ _ = _); omega)
        have cE0 : u.cell? ⟨b15, 0, none⟩ = some (.int .i64 e9.n) := (hu.but.cell _ _ (by omega) (by show ¬ (_ = _ ∨ _ = _); omega)).trans ke7.c0
        have cE1 : u.cell? ⟨b15, 1, none⟩ = some (.int .i64 e9.d) := (hu.but.cell _ _ (by omega) (by show ¬ (_ = _ ∨ _ = _); omega)).trans ke7.c1
        have cE2 : u.cell? ⟨b15, 2, none⟩ = some (.bool e9.bad) := (hu.but.cell _ _ (by omega) (by show ¬ (_ = _ ∨ _ = _); omega)).trans ke7.c2
        have cA0 : u.cell? ⟨b13, 0, none⟩ = some (.int .i64 a.n) := (hu.but.cell _ _ (by omega) (by show ¬ (_ = _ ∨ _ = _); omega)).trans ka7.c0
        have cA1 : u.cell? ⟨b13, 1, none⟩ = some (.int .i64 a.d) := (hu.but.cell _ _ (by omega) (by show ¬ (_ = _ ∨ _ = _); omega)).trans ka7.c1
        have cA2 : u.cell? ⟨b13, 2, none⟩ = some (.bool a.bad) := (hu.but.cell _ _ (by omega) (by show ¬ (_ = _ ∨ _ = _); omega)).trans ka7.c2
        rcases (by omega : j = 0 ∨ j = 1 ∨ j = 2 ∨ j = 3 ∨ j = 4 ∨ j = 5 ∨ j = 6 ∨ j = 7 ∨ j = 8) with rfl | rfl | rfl | rfl | rfl | rfl | rfl | rfl | rfl
        · simp only [List.getElem?_toArray, List.getElem?_cons_zero, List.getElem?_cons_succ, Option.some.injEq] at ho
          subst ho
          have i16 : act.eval (.tmp (16 : Nat)) = .slice px' n cx' := hfr 16 (by decide)
          exact plain_wp (by intro c h; cases h) (fun _ _ => trivial) (by simp only [execOp, i16, evalC, evalF, evalG]; simp [go_sem, hn6]) ⟨_, rfl, rfl, TwoJ.bl (Bl.refl _) (by have := hu.but.size; omega) (by have := hu.but.size; omega)⟩
        · simp only [List.getElem?_toArray, List.getElem?_cons_zero, List.getElem?_cons_succ, Option.some.injEq] at ho
          subst ho
          have i11 : act.eval (.tmp (11 : Nat)) = .pointer (some ⟨b11, 0, none⟩) := hfr 11 (by decide)
          exact plain_wp (by intro c h; cases h) (fun _ _ => trivial) (by simp only [execOp, i11, evalC, evalF, evalG]; simp [go_sem, m0, m1, m2]) ⟨_, rfl, rfl, TwoJ.bl (Bl.refl _) (by have := hu.but.size; omega) (by have := hu.but.size; omega)⟩
        · simp only [List.getElem?_toArray, List.getElem?_cons_zero, List.getElem?_cons_succ, Option.some.injEq] at ho
          subst ho
          have i55 : (act.eval (.tmp (55 : Nat))) = .slice px' n cx' := hin ⟨0, .data⟩ (by simp) rfl 55 rfl
          have i56 : (act.eval (.tmp (56 : Nat))) = mV n n (some ⟨g, 0, none⟩) N gc := hin ⟨1, .data⟩ (by simp) rfl 56 rfl
          exact plain_wp (by intro c h; cases h) (fun _ _ => trivial) (by simp only [execOp, List.map_toArray, List.map_cons, List.map_nil, i55, i56]; simp [Tryz.buildRF, Result.andThen, go_sem]) ⟨_, rfl, rfl, TwoJ.bl (Bl.refl _) (by have := hu.but.size; omega) (by have := hu.but.size; omega)⟩
        · simp only [List.getElem?_toArray, List.getElem?_cons_zero, List.getElem?_cons_succ, Option.some.injEq] at ho
          subst ho
          have i15 : act.eval (.tmp (15 : Nat)) = .pointer (some ⟨b15, 0, none⟩) := hfr 15 (by decide)
          exact plain_wp (by intro c h; cases h) (fun _ _ => trivial) (by simp only [execOp, i15, evalC, evalF, evalG]; simp [go_sem, cE0, cE1, cE2]) ⟨_, rfl, rfl, TwoJ.bl (Bl.refl _) (by have := hu.but.size; omega) (by have := hu.but.size; omega)⟩
        · simp only [List.getElem?_toArray, List.getElem?_cons_zero, List.getElem?_cons_succ, Option.some.injEq] at ho
          subst ho
          have i13 : act.eval (.tmp (13 : Nat)) = .pointer (some ⟨b13, 0, none⟩) := hfr 13 (by decide)
          exact plain_wp (by intro c h; cases h) (fun _ _ => trivial) (by simp only [execOp, i13, evalC, evalF, evalG]; simp [go_sem, cA0, cA1, cA2]) ⟨_, rfl, rfl, TwoJ.bl (Bl.refl _) (by have := hu.but.size; omega) (by have := hu.but.size; omega)⟩
        · simp only [List.getElem?_toArray, List.getElem?_cons_zero, List.getElem?_cons_succ, Option.some.injEq] at ho
          subst ho
          have i58 : (act.eval (.tmp (58 : Nat))) = frV e9 := hin ⟨3, .data⟩ (by simp) rfl 58 rfl
          have i59 : (act.eval (.tmp (59 : Nat))) = frV a := hin ⟨4, .data⟩ (by simp) rfl 59 rfl
          exact plain_wp (by intro c h; cases h) (fun _ _ => trivial) (by simp only [execOp, List.map_toArray, List.map_cons, List.map_nil, i58, i59]; simp [Tryz.buildNF, Result.andThen, go_sem]) ⟨_, rfl, rfl, TwoJ.bl (Bl.refl _) (by have := hu.but.size; omega) (by have := hu.but.size; omega)⟩
        · simp only [List.getElem?_toArray, List.getElem?_cons_zero, List.getElem?_cons_succ, Option.some.injEq] at ho
          subst ho
          have i8 : act.eval (.tmp (8 : Nat)) = .pointer (some ⟨w.heap.size + 1 + 1 + 1, 0, none⟩) := hfr 8 (by decide)
          have i57 : (act.eval (.tmp (57 : Nat))) = sJ px' n cx' n n (some ⟨g, 0, none⟩) N gc := hin ⟨2, .data⟩ (by simp) rfl 57 rfl
          obtain ⟨qa, qb, qc, qd, qe, qf, qg, qh, sx⟩ : ∃ px nx cx r c p n cap, SBox u (w.heap.size + 1 + 1 + 1) px nx cx r c p n cap := by
            rcases hu.g8 with e | t
            · exact ⟨_, _, _, _, _, _, _, _, SZ0.out.heap e hu.but.size⟩
            · exact ⟨_, _, _, _, _, _, _, _, t⟩
          have SX := hideP sx
          obtain ⟨d0, d1, d2, d3, x0, x1, x2, x3, ltd⟩ := id sx
          exact skip_wp (by intro c h; cases h) (fun _ _ => trivial) (by simp only [execOp, i8, i57]; simp [go_sem, d0, d1, d2, d3, x0, x1, x2, x3]) ⟨undef, rfl, SX.out.fill _ _ _ _ _ _ _ _, ⟨(((but_cell1 (.inl rfl) _ _ _).trans (but_cell1 (.inl rfl) _ _ _)).trans (but_cell1 (.inl rfl) _ _ _)).trans (but_cell1 (.inl rfl) _ _ _), .inr (SX.out.fill _ _ _ _ _ _ _ _), .inl (by rw [heap1 _ (by omega), heap1 _ (by omega), heap1 _ (by omega), heap1 _ (by omega)])⟩⟩
        · simp only [List.getElem?_toArray, List.getElem?_cons_zero, List.getElem?_cons_succ, Option.some.injEq] at ho
          subst ho
          have i9 : act.eval (.tmp (9 : Nat)) = .pointer (some ⟨w.heap.size + 1 + 1 + 1 + 1, 0, none⟩) := hfr 9 (by decide)
          have i60 : (act.eval (.tmp (60 : Nat))) = newsVF e9 a := hin ⟨5, .data⟩ (by simp) rfl 60 rfl
          obtain ⟨x', y', nx⟩ : ∃ x y, NBoxF u (w.heap.size + 1 + 1 + 1 + 1) x y := by
            rcases hu.l9 with e | t
            · exact ⟨_, _, NZ0.out.heap e hu.but.size⟩
            · exact ⟨_, _, t⟩
          have NX := hideP nx
          obtain ⟨d0, d1, d2, d3, d4, d5, x0, x1, x2, x3, x4, x5, ltd⟩ := id nx
          exact skip_wp (by intro c h; cases h) (fun _ _ => trivial) (by simp only [execOp, i9, i60]; simp [go_sem, d0, d1, d2, d3, d4, d5, x0, x1, x2, x3, x4, x5]) ⟨undef, rfl, NX.out.fill e9 a, ⟨(((((but_cell1 (.inr rfl) _ _ _).trans (but_cell1 (.inr rfl) _ _ _)).trans (but_cell1 (.inr rfl) _ _ _)).trans (but_cell1 (.inr rfl) _ _ _)).trans (but_cell1 (.inr rfl) _ _ _)).trans (but_cell1 (.inr rfl) _ _ _), .inl (by rw [heap1 _ (by omega), heap1 _ (by omega), heap1 _ (by omega), heap1 _ (by omega), heap1 _ (by omega), heap1 _ (by omega)]), .inr (NX.out.fill e9 a)⟩⟩
        · simp only [List.getElem?_toArray, List.getElem?_cons_zero, List.getElem?_cons_succ, Option.some.injEq] at ho
          subst ho
          exact plain_wp (by intro c h; cases h) (fun _ _ => trivial) (by simp only [execOp, evalC, evalF, evalG]; simp [go_sem]) ⟨_, rfl, rfl, TwoJ.bl (Bl.refl _) (by have := hu.but.size; omega) (by have := hu.but.size; omega)⟩
      case fin =>
        intro vs u hu hin hnon
        have a0 := hin 0 55 rfl
        have a1 := hin 1 56 rfl
        have a2 := hin 2 57 rfl
        have a3 := hin 3 58 rfl
        have a4 := hin 4 59 rfl
        have a5 := hin 5 60 rfl
        have a6 := hnon 6 rfl
        have a7 := hnon 7 rfl
        have a8 := hin 8 10 rfl
        simp only [putL, Act.put, List.setIfInBounds_toArray, List.set_cons_zero, List.set_cons_succ, Nat.zero_add, Nat.reduceAdd, if_true, reduceIte] at a0 a1 a2 a3 a4 a5 a6 a7 a8 ⊢
        simp only [a0, a1, a2, a3, a4, a5, a8]
        obtain ⟨d0, d1, d2, d3, _, _, _, _, _⟩ := a6
        obtain ⟨q0, q1, q2, q3, q4, q5, _, _, _, _, _, _, _⟩ := a7
        have HMF := hideP (Mx.but (HZS7.out) hu.but (fun b hb => by cases hb; show ¬ (g = w.heap.size + 1 + 1 + 1 ∨ g = w.heap.size + 1 + 1 + 1 + 1); omega))
        have HRW := hideP (HRX.out.but hu.but (fun b hb => by have := HFX.out b hb; show ¬ (_ = _ ∨ _ = _); omega))
        clear hin hnon
        go_wp2
        simp [bodyPost, results, Tryz.results27, go_sem, d0, d1, d2, d3, q0, q1, q2, q3, q4, q5]
        exact ⟨px', cx', some ⟨g, 0, none⟩, gc, by simp, ⟨HRW.out, HMF.out, fresh_le HFX.out (by omega), fun b hb => by cases hb; show w.heap.size ≤ g; omega⟩, hu.but.bl B7 (fun i hi => by rcases hi with h | h <;> omega)⟩
end Go.Proofs.YtljmggemdkfbiaaGreat
