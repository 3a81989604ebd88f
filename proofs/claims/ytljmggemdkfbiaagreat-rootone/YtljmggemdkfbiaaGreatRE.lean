/- The contract of env's Neg (layer 3). -/
import Derived.Test.YtljmggemdkfbiaaGreatRC
import Derived.Test.YtljmggemdkfbiaaGreatRD
import Derived.Test.YtljmggemdkfbiaaGreatLeaf
import Derived.Lib.BitFns
import Derived.Lib.Strings
import Derived.Lib.Walk
import Derived.WalkKit
import Derived.Laws.MathBits
import Derived.BigQuiet
import Derived.Test.YtljmggemdkfbiaaGreatCmp
import Derived.Test.YtljmggemdkfbiaaGreatRoot
import Derived.Test.YtljmggemdkfbiaaGreatTimes
import Derived.Deep.DeepCutAuto
import Derived.Test.YtljmggemdkfbiaaGreatWlr
/- Contract of root's Update, of fractions (layer 10). Written by genRo.py. -/
namespace Go.Proofs.YtljmggemdkfbiaaGreat
open Go.RowKit
set_option linter.unusedSimpArgs false
set_option linter.unusedVariables false

set_option maxRecDepth 100000 in
set_option maxHeartbeats 8000000 in
theorem rUpdateF (n N : Nat) (px : Option Addr) (cx : Nat) (x : Nat → Fr) (p : Option Addr) (cap : Nat) (S : Nat → Nat → Fr) (ph : Option Addr) (ch : Nat) (h : Nat → Fr) (r z : Fr) (w : World)
    (hx : Rq 3 cellsF w (.slice px n cx) (linJ n x)) (hP : Mx 3 cellsF w n n p N cap S) (hh : Rq 3 cellsF w (.slice ph n ch) (linJ n h)) (h4 : n ≤ 4) :
    Calls Tryz.prog 27 #[sJ px n cx n n p N cap, .slice ph n ch, frV r, frV z] w fun e w' => ∃ q c p' c', e = .returned (.tuple #[sJ q n c n n p' N c', newsVF (surpJ kdF n x h z) (runO kdF n S h r n).a, .bool true]) ∧ (Rw 3 cellsF w' (.slice q n c) (linJ n fun i => addR (x i) (mulR (divR ((runO kdF n S h r n).e i) (runO kdF n S h r n).a) (surpJ kdF n x h z))) ∧ Mx 3 cellsF w' n n p' N c' (runO kdF n S h r n).s ∧ Fresh w.heap.size (.slice q n c) ∧ Fresh w.heap.size (.slice p' N c')) ∧ Bl w w' := by
  have fm : Tryz.prog.follows .mixedOrders = true := by kernel_rfl
  have egD := enters_of Tryz.func47 (by kernel_rfl) rfl
  have egS := enters_of Tryz.func192 (by kernel_rfl) rfl
  have egC := enters_of Tryz.func50 (by kernel_rfl) rfl
  have egV := enters_of Tryz.func49 (by kernel_rfl) rfl
  have hfit := fitJ_dim hP.1 hP.2.1 h4
  have hn6 : n ≤ 1000000 := by omega
  have hn1 : 1 ≤ n := hP.1.r1
  obtain ⟨T, hT⟩ : ∃ T, T = runO kdF n S h r n := ⟨_, rfl⟩
  obtain ⟨a, ha⟩ : ∃ a, a = T.a := ⟨_, rfl⟩
  obtain ⟨dx, hdx⟩ : ∃ dx, dx = dotF (linJ n h) (linJ n x) := ⟨_, rfl⟩
  obtain ⟨e9, he9⟩ : ∃ e9, e9 = subR z dx := ⟨_, rfl⟩
  have hsur : e9 = surpJ kdF n x h z := by rw [he9, hdx]; rfl
  obtain ⟨kk, hkk⟩ : ∃ kk, kk = fun i => divR (T.e i) a := ⟨_, rfl⟩
  have HUX := hideP (show (fun i => addR (x i) (mulR (divR (T.e i) a) e9)) = fun i => addR (x i) (mulR (kk i) e9) by rw [hkk])
  have DOX0 := hideP (fun (u : World) (h1 : Rq 3 cellsF u (.slice ph n ch) (linJ n h)) (h2 : Rq 3 cellsF u (.slice px n cx) (linJ n x)) => by have := vDotF (.slice ph n ch) (.slice px n cx) (linJ n h) (linJ n x) u h1 h2 (by rw [linJ_len]; exact hn6) (by rw [linJ_len]; exact hn6); rw [← hdx] at this; exact this)
  have SUB := hideP (fun u => by have := rsub_any z dx u; rw [← he9] at this; exact this)
  have TAK0 := hideP (fun (u : World) (h1 : Mx 3 cellsF u n n p N cap S) (h2 : Rq 3 cellsF u (.slice ph n ch) (linJ n h)) => by have := rTakenF n N p cap S ph ch h r u h1 h2; rw [← hT, ← ha] at this; exact this)
  rw [← hT, ← ha, ← hsur, HUX.out]
  have HKK := hideP (show linJ n kk = linJ n (fun i => divR (T.e i) a) by rw [hkk])
  clear hT ha hdx he9 hsur hkk
  obtain ⟨W, hW⟩ : ∃ W, W = ((((w.alloc (.cells #[.slice px n cx, .int .i64 n, .int .i64 n, .slice p N cap] 63)).alloc (.cells #[.int .i64 r.n, .int .i64 r.d, .bool r.bad] 34)).alloc (.cells #[.int .i64 z.n, .int .i64 z.d, .bool z.bad] 34)).alloc (.cells #[.slice none 0 0, .int .i64 0, .int .i64 0, .slice none 0 0] 63)).alloc (.cells #[.int .i64 0, .int .i64 0, .bool false, .int .i64 0, .int .i64 0, .bool false] 41) := ⟨_, rfl⟩
  have b0 : Bl w W := by rw [hW]; exact (((((Bl.refl _).alloc _).alloc _).alloc _).alloc _).alloc _
  have s0 : SBox W w.heap.size px n cx n n p N cap := by rw [hW]; exact (SBox.new w _ _ _ _ _ _ _ _ _).later (((((Bl.refl _).alloc _).alloc _).alloc _).alloc _)
  have r0 : FBox W (w.heap.size + 1) r := by rw [hW]; have := FBox.new (w.alloc (.cells #[.slice px n cx, .int .i64 n, .int .i64 n, .slice p N cap] 63)) r 34; simp only [World.size_alloc] at this; exact this.later ((((Bl.refl _).alloc _).alloc _).alloc _)
  have z0 : FBox W (w.heap.size + 1 + 1) z := by rw [hW]; have := FBox.new ((w.alloc (.cells #[.slice px n cx, .int .i64 n, .int .i64 n, .slice p N cap] 63)).alloc (.cells #[.int .i64 r.n, .int .i64 r.d, .bool r.bad] 34)) z 34; simp only [World.size_alloc] at this; exact this.later (((Bl.refl _).alloc _).alloc _)
  have sz0 : SBox W (w.heap.size + 1 + 1 + 1) none 0 0 0 0 none 0 0 := by rw [hW]; have := SBox.new (((w.alloc (.cells #[.slice px n cx, .int .i64 n, .int .i64 n, .slice p N cap] 63)).alloc (.cells #[.int .i64 r.n, .int .i64 r.d, .bool r.bad] 34)).alloc (.cells #[.int .i64 z.n, .int .i64 z.d, .bool z.bad] 34)) none 0 0 0 0 none 0 0 63; simp only [World.size_alloc] at this; exact this.later ((Bl.refl _).alloc _)
  have nz0 : NBoxF W (w.heap.size + 1 + 1 + 1 + 1) zeroR zeroR := by rw [hW]; have := NBoxF.new ((((w.alloc (.cells #[.slice px n cx, .int .i64 n, .int .i64 n, .slice p N cap] 63)).alloc (.cells #[.int .i64 r.n, .int .i64 r.d, .bool r.bad] 34)).alloc (.cells #[.int .i64 z.n, .int .i64 z.d, .bool z.bad] 34)).alloc (.cells #[.slice none 0 0, .int .i64 0, .int .i64 0, .slice none 0 0] 63)) zeroR zeroR 41; simp only [World.size_alloc] at this; exact this
  have hs : W.heap.size = w.heap.size + 1 + 1 + 1 + 1 + 1 := by rw [hW]; simp
  have HX := hideP hx
  have HD := hideP hP.1
  have HN := hideP hP.2.1
  have HP := hideP hP
  have HH := hideP hh
  have HW := hideP hW
  obtain ⟨d0, d1, d2, d3, _, _, _, _, _⟩ := id s0
  rw [hW] at d0 d1 d2 d3
  clear hW hx hP hh
  go_enter Tryz.func27, Tryz.ntmps27
  go_wp2_with fail
  try simp only [World.size_alloc]
  rw [← HW.out]
  refine (rRightF _ _ _ _ _ _ _ _ _).mono ?_
  rintro e w1 ⟨rfl, h1⟩
  rw [hfit]
  clear d0 d1 d2 d3
  obtain ⟨d0, d1, d2, d3, _, _, _, _, _⟩ := s0.later h1
  obtain ⟨c0, c1, c2, f0, f1, f2, _⟩ := r0.later h1
  go_wp2_with fail
  refine (TAK0.out w1 (HP.out.later (b0.trans h1)) (HH.out.later (b0.trans h1))).mono ?_
  rintro e w3 ⟨g, gc, ge, gce, rfl, ⟨hZs, hZe⟩, h3⟩
  clear d0 d1 d2 d3 c0 c1 c2 f0 f1 f2 TAK0
  obtain ⟨W3, hW3⟩ : ∃ W3, W3 = (w3.alloc (.cells #[.int .i64 n, .int .i64 n, .slice (some ⟨g, 0, none⟩) N gc] 30)).alloc (.cells #[.int .i64 a.n, .int .i64 a.d, .bool a.bad] 34) := ⟨_, rfl⟩
  have b3' : Bl w3 W3 := by rw [hW3]; exact ((Bl.refl _).alloc _).alloc _
  have b3W : Bl W W3 := h1.trans (h3.trans b3')
  have B3 : Bl w W3 := b0.trans b3W
  have hs3 : W3.heap.size = w3.heap.size + 1 + 1 := by rw [hW3]; simp
  have hs31 : w.heap.size + 1 + 1 + 1 + 1 + 1 ≤ w3.heap.size := by have := (h1.trans h3).size; omega
  have k11' : MBox W3 w3.heap.size n n (some ⟨g, 0, none⟩) N gc := by rw [hW3]; exact (MBox.new w3 _ _ _ _ _ _).later ((Bl.refl _).alloc _)
  have ka' : FBox W3 (w3.heap.size + 1) a := by rw [hW3]; have := FBox.new (w3.alloc (.cells #[.int .i64 n, .int .i64 n, .slice (some ⟨g, 0, none⟩) N gc] 30)) a 34; simp only [World.size_alloc] at this; exact this
  have HZS := hideP ((hZs.later b3'))
  have gfr : ∀ b, (Value.slice (some ⟨g, 0, none⟩) N gc).ownBlock = some b → w1.heap.size ≤ b := hZs.fresh
  have SH := hideP (rSharesF n (some ⟨ge, 0, none⟩) gce T.e a W3 (hZe.later b3').rw hn6)
  obtain ⟨d0, d1, d2, g0, g1, g2, _⟩ := id ka'
  have HW3 := hideP hW3
  rw [hW3] at d0 d1 d2
  clear hW3 hZs hZe
  go_wp2_with fail
  rw [← HW3.out]
  refine SH.out.mono ?_
  rintro e w5 ⟨pk, ck, rfl, ⟨hRk, _⟩, h5⟩
  have HK5 := hideP (show Rw 3 cellsF w5 (.slice pk n ck) (linJ n kk) from by rw [HKK.out]; exact hRk)
  have B5 := B3.trans h5
  have b35 : Bl W3 w5 := h5
  have kz := z0.later (b3W.trans h5)
  have ks := s0.later (b3W.trans h5)
  have hs5 := b35.size
  have DOX := hideP (fun u (hu : Bl w5 u) => DOX0.out u (HH.out.later (B5.trans hu)) (HX.out.later (B5.trans hu)))
  obtain ⟨b11, hb11⟩ : ∃ b11, b11 = w3.heap.size := ⟨_, rfl⟩
  obtain ⟨b13, hb13⟩ : ∃ b13, b13 = w3.heap.size + 1 := ⟨_, rfl⟩
  have k11 : MBox W3 b11 n n (some ⟨g, 0, none⟩) N gc := by rw [hb11]; exact k11'
  have ka : FBox W3 b13 a := by rw [hb13]; exact ka'
  clear d0 d1 d2 g0 g1 g2 hRk SH DOX0 k11' ka'
  go_wp2_with fail
  try simp only [← hb13]
  try simp only [← hb11]
  refine (wpIn_wide (n := 8)).1 (region_q fm [some 42, some 43, some 44, some 45, some 46, some 47, some 48, some 15, none] (fun _ => false) 8 (by kernel_rfl) (by rfl)
    (fun j v u => match j with | 0 => v = frV z | 1 => v = .iface 34 (frV z) | 2 => v = .slice ph n ch | 3 => v = .pointer (some ⟨w.heap.size, 0, none⟩) | 4 => v = .slice px n cx | 5 => v = frV dx | 6 => v = frV e9 | 7 => ∃ b, v = .pointer (some ⟨b, 0, none⟩) ∧ w5.heap.size ≤ b ∧ FBox u b zeroR | _ => False)
    (by
        intro j v u u' hb h
        split at h <;> first | exact h | (obtain ⟨b, e, h1, h2⟩ := h; exact ⟨b, e, h1, h2.later hb⟩) | (obtain ⟨q, c, e, h1⟩ := h; exact ⟨q, c, e, h1.later hb⟩)) (fun vs u0 u => ∃ b, vs 7 = .pointer (some ⟨b, 0, none⟩) ∧ w5.heap.size ≤ b ∧ FBox u b e9 ∧ Bl w5 u) ?step ?still ?store ?fin)
  case step =>
    intro j o t act u ho hdt hpu hsz hu hfr hin
    have hj : j < 9 := (Array.getElem?_eq_some_iff.1 ho).1
    obtain ⟨c0, c1, c2, f0, f1, f2, ltr⟩ := kz.later hu
    obtain ⟨y0, y1, y2, y3, _, _, _, _, _⟩ := ks.later hu
    rcases (by omega : j = 0 ∨ j = 1 ∨ j = 2 ∨ j = 3 ∨ j = 4 ∨ j = 5 ∨ j = 6 ∨ j = 7 ∨ j = 8) with rfl | rfl | rfl | rfl | rfl | rfl | rfl | rfl | rfl
    · simp only [List.getElem?_toArray, List.getElem?_cons_zero, List.getElem?_cons_succ, Option.some.injEq] at ho
      subst ho
      obtain rfl := Option.some.inj hdt
      have i7 : act.eval (.tmp (7 : Nat)) = .pointer (some ⟨w.heap.size + 1 + 1, 0, none⟩) := hfr 7 (by decide)
      exact plain_wp (by intro c h; cases h) (fun _ _ => trivial) (by simp only [execOp, i7, evalC, evalF, evalG]; simp [go_sem, c0, c1, c2]) ⟨_, rfl, rfl, Bl.refl _⟩
    · simp only [List.getElem?_toArray, List.getElem?_cons_zero, List.getElem?_cons_succ, Option.some.injEq] at ho
      subst ho
      obtain rfl := Option.some.inj hdt
      have i42 : (act.eval (.tmp (42 : Nat))) = frV z := hin ⟨0, .data⟩ (by simp) rfl 42 rfl
      exact plain_wp (by intro c h; cases h) (fun _ _ => trivial) (by simp only [execOp, i42, evalC, evalF, evalG]; simp [go_sem]) ⟨_, rfl, rfl, Bl.refl _⟩
    · simp only [List.getElem?_toArray, List.getElem?_cons_zero, List.getElem?_cons_succ, Option.some.injEq] at ho
      subst ho
      obtain rfl := Option.some.inj hdt
      have i1 : act.eval (.tmp (1 : Nat)) = .slice ph n ch := hfr 1 (by decide)
      exact plain_wp (by intro c h; cases h) (fun _ _ => trivial) (by simp only [execOp, i1, evalC, evalF, evalG]; simp [go_sem, y0]) ⟨_, rfl, rfl, Bl.refl _⟩
    · simp only [List.getElem?_toArray, List.getElem?_cons_zero, List.getElem?_cons_succ, Option.some.injEq] at ho
      subst ho
      obtain rfl := Option.some.inj hdt
      have i4 : act.eval (.tmp (4 : Nat)) = .pointer (some ⟨w.heap.size, 0, none⟩) := hfr 4 (by decide)
      exact plain_wp (by intro c h; cases h) (fun _ _ => trivial) (by simp only [execOp, i4, evalC, evalF, evalG]; simp [go_sem, y0, y1, y2, y3]) ⟨_, rfl, rfl, Bl.refl _⟩
    · simp only [List.getElem?_toArray, List.getElem?_cons_zero, List.getElem?_cons_succ, Option.some.injEq] at ho
      subst ho
      obtain rfl := Option.some.inj hdt
      have i45 : (act.eval (.tmp (45 : Nat))) = .pointer (some ⟨w.heap.size, 0, none⟩) := hin ⟨3, .data⟩ (by simp) rfl 45 rfl
      exact plain_wp (by intro c h; cases h) (fun _ _ => trivial) (by simp only [execOp, i45, evalC, evalF, evalG]; simp [go_sem, y0, y1, y2, y3]) ⟨_, rfl, rfl, Bl.refl _⟩
    · simp only [List.getElem?_toArray, List.getElem?_cons_zero, List.getElem?_cons_succ, Option.some.injEq] at ho
      subst ho
      obtain rfl := Option.some.inj hdt
      have i44 : (act.eval (.tmp (44 : Nat))) = .slice ph n ch := hin ⟨2, .data⟩ (by simp) rfl 44 rfl
      have i46 : (act.eval (.tmp (46 : Nat))) = .slice px n cx := hin ⟨4, .data⟩ (by simp) rfl 46 rfl
      refine enter_wp 47 #[.slice ph n ch, .slice px n cx] (by intro c h; cases h) (fun _ _ => trivial) (by simp only [execOp, evalC, evalF, evalG, resolve, i44, i46, List.map_toArray, List.map_cons, List.map_nil]; simp [invoke, egD, Result.andThen, go_sem]) (by intro h; cases h) (callsIn_wide.2 (DOX.out u hu)) ?_
      rintro e w' ⟨rfl, hb⟩
      exact ⟨_, rfl, _, rfl, rfl, hb⟩
    · simp only [List.getElem?_toArray, List.getElem?_cons_zero, List.getElem?_cons_succ, Option.some.injEq] at ho
      subst ho
      obtain rfl := Option.some.inj hdt
      have i43 : (act.eval (.tmp (43 : Nat))) = .iface 34 (frV z) := hin ⟨1, .data⟩ (by simp) rfl 43 rfl
      have i47 : (act.eval (.tmp (47 : Nat))) = frV dx := hin ⟨5, .data⟩ (by simp) rfl 47 rfl
      have iv := Tryz.mSubF
      refine enter_wp 192 #[frV z, frV dx] (by intro c h; cases h) (fun _ _ => trivial) (by simp only [execOp, evalC, evalF, evalG, resolve, i43, i47, List.map_toArray, List.map_cons, List.map_nil]; simp [invoke, iv, egS, Result.andThen, go_sem]) (by intro h; cases h) (callsIn_wide.2 (SUB.out u)) ?_
      rintro e w' ⟨rfl, hb⟩
      exact ⟨_, rfl, _, rfl, rfl, hb⟩
    · simp only [List.getElem?_toArray, List.getElem?_cons_zero, List.getElem?_cons_succ, Option.some.injEq] at ho
      subst ho
      obtain rfl := Option.some.inj hdt
      exact plain_wp (by intro c h; cases h) (fun _ _ => trivial) (w' := u.alloc (.cells #[.int .i64 0, .int .i64 0, .bool false] 34)) (v := .pointer (some ⟨u.heap.size, 0, none⟩)) (by simp only [execOp]; simp [go_sem]) ⟨_, rfl, ⟨u.heap.size, rfl, hu.size, FBox.new u zeroR _⟩, (Bl.refl _).alloc _⟩
    · simp only [List.getElem?_toArray, List.getElem?_cons_zero, List.getElem?_cons_succ, Option.some.injEq] at ho
      subst ho
      cases hdt
  case still =>
    intro j o t act u0 u ho hdt hpu
    cases hpu
  case store =>
    intro o act u vs ho hsz hu hfr hin
    simp only [List.getElem?_toArray, List.getElem?_cons_zero, List.getElem?_cons_succ, Option.some.injEq] at ho
    subst ho
    obtain ⟨i15, k15⟩ : act.eval (.tmp (15 : Nat)) = vs 7 ∧ (∃ b, (vs 7) = .pointer (some ⟨b, 0, none⟩) ∧ w5.heap.size ≤ b ∧ FBox u b zeroR) := hin 7 15 rfl rfl
    obtain ⟨i48, k48⟩ : act.eval (.tmp (48 : Nat)) = vs 6 ∧ ((vs 6) = frV e9) := hin 6 48 rfl rfl
    obtain ⟨b, e1, hb, bx⟩ := k15
    rw [e1] at i15
    replace i48 := i48.trans k48
    obtain ⟨c0, c1, c2, f0, f1, f2, ltb⟩ := id bx
    exact skip_wp (by intro c h; cases h) (fun _ _ => trivial) (by simp only [execOp, i15, i48]; simp [go_sem, zeroR, c0, c1, c2, f0, f1, f2]) ⟨rfl, b, e1, hb, bx.fill _, Bl.set3 hu hb _ _ _⟩
  case fin =>
    intro vs vb u0 u hu hin hps
    have a0 := hin 0 42 rfl
    have a1 := hin 1 43 rfl
    have a2 := hin 2 44 rfl
    have a3 := hin 3 45 rfl
    have a4 := hin 4 46 rfl
    have a5 := hin 5 47 rfl
    have a6 := hin 6 48 rfl
    have a7 := hin 7 15 rfl
    simp only [putL, Act.put, List.setIfInBounds_toArray, List.set_cons_zero, List.set_cons_succ, Nat.zero_add, Nat.reduceAdd, Nat.reduceBEq, Bool.or_false, Bool.or_true, Bool.false_or, Bool.true_or, Bool.false_eq_true, if_false, if_true, reduceIte, Nat.reduceEqDiff, beq_self_eq_true, Bool.or_self] at a0 a1 a2 a3 a4 a5 a6 a7 ⊢
    rw [if_pos (by decide)] at hps
    simp only [a0, a1, a2, a3, a4, a5, a6]
    obtain ⟨b15, e15, hb15, ke, hbu⟩ := hps
    simp only [e15]
    obtain ⟨w6, rfl⟩ : ∃ w6, w6 = u := ⟨_, rfl⟩
    clear a0 a1 a2 a3 a4 a5 a6 hu hin
    have B6 := B5.trans hbu
    have b36 := b35.trans hbu
    have ks6 := ks.later hbu
    have HK := hideP (HK5.out.later hbu)
    have hs6 := hbu.size
    clear DOX SUB kz ks
    go_wp2_with fail
    refine (wpIn_wide (n := 8)).1 (region_q fm [some 49, some 50, some 51, some 52, some 53, some 54, some 16] (fun _ => false) 7 (by kernel_rfl) (by rfl)
        (fun j v u => match j with | 0 => v = .pointer (some ⟨w.heap.size, 0, none⟩) | 1 => v = .slice px n cx | 2 => v = .slice pk n ck | 3 => v = frV e9 | 4 => ∃ q c, v = .slice q n c ∧ Rw 3 cellsF u (.slice q n c) (linJ n fun i => mulR (kk i) e9) | 5 => ∃ q c, v = .slice q n c ∧ Rw 3 cellsF u (.slice q n c) (linJ n fun i => addR (x i) (mulR (kk i) e9)) ∧ Fresh w6.heap.size (.slice q n c) | 6 => ∃ q c, v = .slice q n c ∧ Rw 3 cellsF u (.slice q n c) (linJ n fun i => addR (x i) (mulR (kk i) e9)) ∧ Fresh w6.heap.size (.slice q n c) | _ => False)
        (by
            intro j v u u' hb h
            split at h <;> first | exact h | (obtain ⟨q, c, e, h1, h2⟩ := h; exact ⟨q, c, e, h1.later hb, h2⟩) | (obtain ⟨q, c, e, h1⟩ := h; exact ⟨q, c, e, h1.later hb⟩)) (fun vs u0 u => u = u0) ?step ?still ?store ?fin)
    case step =>
      intro j o t act u ho hdt hpu hsz hu hfr hin
      have hj : j < 7 := (Array.getElem?_eq_some_iff.1 ho).1
      obtain ⟨c0, c1, c2, f0, f1, f2, ltr⟩ := ke.later hu
      obtain ⟨y0, y1, y2, y3, _, _, _, _, _⟩ := ks6.later hu
      rcases (by omega : j = 0 ∨ j = 1 ∨ j = 2 ∨ j = 3 ∨ j = 4 ∨ j = 5 ∨ j = 6) with rfl | rfl | rfl | rfl | rfl | rfl | rfl
      · simp only [List.getElem?_toArray, List.getElem?_cons_zero, List.getElem?_cons_succ, Option.some.injEq] at ho
        subst ho
        obtain rfl := Option.some.inj hdt
        have i4 : act.eval (.tmp (4 : Nat)) = .pointer (some ⟨w.heap.size, 0, none⟩) := hfr 4 (by decide)
        exact plain_wp (by intro c h; cases h) (fun _ _ => trivial) (by simp only [execOp, i4, evalC, evalF, evalG]; simp [go_sem, y0, y1, y2, y3]) ⟨_, rfl, rfl, Bl.refl _⟩
      · simp only [List.getElem?_toArray, List.getElem?_cons_zero, List.getElem?_cons_succ, Option.some.injEq] at ho
        subst ho
        obtain rfl := Option.some.inj hdt
        have i49 : (act.eval (.tmp (49 : Nat))) = .pointer (some ⟨w.heap.size, 0, none⟩) := hin ⟨0, .data⟩ (by simp) rfl 49 rfl
        exact plain_wp (by intro c h; cases h) (fun _ _ => trivial) (by simp only [execOp, i49, evalC, evalF, evalG]; simp [go_sem, y0, y1, y2, y3]) ⟨_, rfl, rfl, Bl.refl _⟩
      · simp only [List.getElem?_toArray, List.getElem?_cons_zero, List.getElem?_cons_succ, Option.some.injEq] at ho
        subst ho
        obtain rfl := Option.some.inj hdt
        have i14 : act.eval (.tmp (14 : Nat)) = .slice pk n ck := hfr 14 (by decide)
        exact plain_wp (by intro c h; cases h) (fun _ _ => trivial) (by simp only [execOp, i14, evalC, evalF, evalG]; simp [go_sem, y0]) ⟨_, rfl, rfl, Bl.refl _⟩
      · simp only [List.getElem?_toArray, List.getElem?_cons_zero, List.getElem?_cons_succ, Option.some.injEq] at ho
        subst ho
        obtain rfl := Option.some.inj hdt
        have i15 : act.eval (.tmp (15 : Nat)) = .pointer (some ⟨b15, 0, none⟩) := hfr 15 (by decide)
        exact plain_wp (by intro c h; cases h) (fun _ _ => trivial) (by simp only [execOp, i15, evalC, evalF, evalG]; simp [go_sem, c0, c1, c2]) ⟨_, rfl, rfl, Bl.refl _⟩
      · simp only [List.getElem?_toArray, List.getElem?_cons_zero, List.getElem?_cons_succ, Option.some.injEq] at ho
        subst ho
        obtain rfl := Option.some.inj hdt
        have i51 : (act.eval (.tmp (51 : Nat))) = .slice pk n ck := hin ⟨2, .data⟩ (by simp) rfl 51 rfl
        have i52 : (act.eval (.tmp (52 : Nat))) = frV e9 := hin ⟨3, .data⟩ (by simp) rfl 52 rfl
        refine enter_wp 50 #[.slice pk n ck, frV e9] (by intro c h; cases h) (fun _ _ => trivial) (by simp only [execOp, evalC, evalF, evalG, resolve, i51, i52, List.map_toArray, List.map_cons, List.map_nil]; simp [invoke, egC, Result.andThen, go_sem]) (by intro h; cases h) (callsIn_wide.2 (scale_linF pk n ck kk e9 u (HK.out.later hu) hn6)) ?_
        rintro e w' ⟨q, c, rfl, hR, hb⟩
        exact ⟨_, rfl, _, rfl, ⟨q, c, rfl, hR⟩, hb⟩
      · simp only [List.getElem?_toArray, List.getElem?_cons_zero, List.getElem?_cons_succ, Option.some.injEq] at ho
        subst ho
        obtain rfl := Option.some.inj hdt
        have i50 : (act.eval (.tmp (50 : Nat))) = .slice px n cx := hin ⟨1, .data⟩ (by simp) rfl 50 rfl
        have i53 : ∃ q c, (act.eval (.tmp (53 : Nat))) = .slice q n c ∧ Rw 3 cellsF u (.slice q n c) (linJ n fun i => mulR (kk i) e9) := hin ⟨4, .data⟩ (by simp) rfl 53 rfl
        obtain ⟨q0, c0', e1, hq⟩ := i53
        refine enter_wp 49 #[.slice px n cx, .slice q0 n c0'] (by intro c h; cases h) (fun _ _ => trivial) (by simp only [execOp, evalC, evalF, evalG, resolve, i50, e1, List.map_toArray, List.map_cons, List.map_nil]; simp [invoke, egV, Result.andThen, go_sem]) (by intro h; cases h) (callsIn_wide.2 (add_linF px q0 n cx c0' x _ u (HX.out.later (B6.trans hu)) hq.q hn6)) ?_
        rintro e w' ⟨q, c, rfl, ⟨hR, hF⟩, hb⟩
        exact ⟨_, rfl, _, rfl, ⟨q, c, rfl, hR, fresh_le hF hu.size⟩, hb⟩
      · simp only [List.getElem?_toArray, List.getElem?_cons_zero, List.getElem?_cons_succ, Option.some.injEq] at ho
        subst ho
        obtain rfl := Option.some.inj hdt
        have i54 : ∃ q c, (act.eval (.tmp (54 : Nat))) = .slice q n c ∧ Rw 3 cellsF u (.slice q n c) (linJ n fun i => addR (x i) (mulR (kk i) e9)) ∧ Fresh w6.heap.size (.slice q n c) := hin ⟨5, .data⟩ (by simp) rfl 54 rfl
        obtain ⟨q0, c0', e1, hq⟩ := i54
        exact plain_wp (by intro c h; cases h) (fun _ _ => trivial) (by simp only [execOp, e1, evalC, evalF, evalG]; simp [go_sem]) ⟨_, rfl, ⟨q0, c0', rfl, hq⟩, Bl.refl _⟩
    case still =>
      intro j o t act u0 u ho hdt hpu
      cases hpu
    case store =>
      intro o act u vs ho
      cases ho
    case fin =>
      intro vs vb u0 u hu hin hps
      have a0 := hin 0 49 rfl
      have a1 := hin 1 50 rfl
      have a2 := hin 2 51 rfl
      have a3 := hin 3 52 rfl
      have a4 := hin 4 53 rfl
      have a5 := hin 5 54 rfl
      have a6 := hin 6 16 rfl
      simp only [putL, Act.put, List.setIfInBounds_toArray, List.set_cons_zero, List.set_cons_succ, Nat.zero_add, Nat.reduceAdd, Nat.reduceBEq, Bool.or_false, Bool.or_true, Bool.false_or, Bool.true_or, Bool.false_eq_true, if_false, if_true, reduceIte, Nat.reduceEqDiff, beq_self_eq_true, Bool.or_self] at a0 a1 a2 a3 a4 a5 a6 ⊢
      rw [if_neg (by decide)] at hps
      simp only [a0, a1, a2, a3]
      subst hps
      obtain ⟨px', cx', e6, hRx, hFx⟩ := a6
      simp only [e6]
      obtain ⟨w7, rfl⟩ : ∃ w7, w7 = u := ⟨_, rfl⟩
      have HRX := hideP hRx
      have HFX := hideP hFx
      clear a4 a5 hRx hFx hin
      have B7 := B6.trans hu
      have b37 := b36.trans hu
      have ke7 := ke.later hu
      have ka7 := ka.later b37
      have k7 := k11.later b37
      have HZS7 := hideP (show Mx 3 cellsF w7 n n (some ⟨g, 0, none⟩) N gc T.s from ⟨HD.out, HN.out, ((HZS.out.later b37).rw).q⟩)
      have SZ0 := hideP (sz0.later (b3W.trans b37))
      have NZ0 := hideP (nz0.later (b3W.trans b37))
      have hs7 := hu.size
      have hs36 := b36.size
      have gl := HZS.out.fresh g rfl
      have l15 := ke7.lt
      have l13 := ka7.lt
      have hs1w := h1.size
      clear hu
      go_wp2_with fail
      refine (wpIn_wide (n := 8)).1 (region_r fm (TwoJ (w.heap.size + 1 + 1 + 1) (w.heap.size + 1 + 1 + 1 + 1) (fun y => SBox y (w.heap.size + 1 + 1 + 1) px' n cx' n n (some ⟨g, 0, none⟩) N gc) (fun y => NBoxF y (w.heap.size + 1 + 1 + 1 + 1) e9 a)) [some 55, some 56, some 57, some 58, some 59, some 60, none, none, some 10] (by kernel_rfl) (by rfl) (TwoJ.bl ((Bl.refl _).drew) (by omega) (by omega)) (fun h k => TwoJ.trans (fun x y t b e => t.heap e b.size) (fun x y t b e => t.heap e b.size) h k)
          (fun j v u => match j with | 0 => v = .slice px' n cx' | 1 => v = mV n n (some ⟨g, 0, none⟩) N gc | 2 => v = sJ px' n cx' n n (some ⟨g, 0, none⟩) N gc | 3 => v = frV e9 | 4 => v = frV a | 5 => v = newsVF e9 a | 6 => SBox u (w.heap.size + 1 + 1 + 1) px' n cx' n n (some ⟨g, 0, none⟩) N gc | 7 => NBoxF u (w.heap.size + 1 + 1 + 1 + 1) e9 a | 8 => v = .bool true | _ => False)
          (by
              intro j v u u' hb hr h
              split at h
              · exact h
              · exact h
              · exact h
              · exact h
              · exact h
              · exact h
              · rcases hr.g8 with e | t
                · exact h.heap e hr.but.size
                · exact t
              · rcases hr.l9 with e | t
                · exact h.heap e hr.but.size
                · exact t
              · exact h
              · exact h) ?step ?fin)
      case step =>
        intro j o act u ho hsz hu hfr hin hnon
        have hj : j < 9 := (Array.getElem?_eq_some_iff.1 ho).1
        obtain ⟨m0, m1, m2, _, _, _, _⟩ := k7.but hu.but (by show ¬ (_ = _ ∨ _ = _); omega)
        have cE0 : u.cell? ⟨b15, 0, none⟩ = some (.int .i64 e9.n) := (hu.but.cell _ _ (by omega) (by show ¬ (_ = _ ∨ _ = _); omega)).trans ke7.c0
        have cE1 : u.cell? ⟨b15, 1, none⟩ = some (.int .i64 e9.d) := (hu.but.cell _ _ (by omega) (by show ¬ (_ = _ ∨ _ = _); omega)).trans ke7.c1
        have cE2 : u.cell? ⟨b15, 2, none⟩ = some (.bool e9.bad) := (hu.but.cell _ _ (by omega) (by show ¬ (_ = _ ∨ _ = _); omega)).trans ke7.c2
        have cA0 : u.cell? ⟨b13, 0, none⟩ = some (.int .i64 a.n) := (hu.but.cell _ _ (by omega) (by show ¬ (_ = _ ∨ _ = _); omega)).trans ka7.c0
        have cA1 : u.cell? ⟨b13, 1, none⟩ = some (.int .i64 a.d) := (hu.but.cell _ _ (by omega) (by show ¬ (_ = _ ∨ _ = _); omega)).trans ka7.c1
        have cA2 : u.cell? ⟨b13, 2, none⟩ = some (.bool a.bad) := (hu.but.cell _ _ (by omega) (by show ¬ (_ = _ ∨ _ = _); omega)).trans ka7.c2
        rcases (by omega : j = 0 ∨ j = 1 ∨ j = 2 ∨ j = 3 ∨ j = 4 ∨ j = 5 ∨ j = 6 ∨ j = 7 ∨ j = 8) with rfl | rfl | rfl | rfl | rfl | rfl | rfl | rfl | rfl
        · simp only [List.getElem?_toArray, List.getElem?_cons_zero, List.getElem?_cons_succ, Option.some.injEq] at ho
          subst ho
          have i16 : act.eval (.tmp (16 : Nat)) = .slice px' n cx' := hfr 16 (by decide)
          exact plain_wp (by intro c h; cases h) (fun _ _ => trivial) (by simp only [execOp, i16, evalC, evalF, evalG]; simp [go_sem, hn6]) ⟨_, rfl, rfl, TwoJ.bl (Bl.refl _) (by have := hu.but.size; omega) (by have := hu.but.size; omega)⟩
        · simp only [List.getElem?_toArray, List.getElem?_cons_zero, List.getElem?_cons_succ, Option.some.injEq] at ho
          subst ho
          have i11 : act.eval (.tmp (11 : Nat)) = .pointer (some ⟨b11, 0, none⟩) := hfr 11 (by decide)
          exact plain_wp (by intro c h; cases h) (fun _ _ => trivial) (by simp only [execOp, i11, evalC, evalF, evalG]; simp [go_sem, m0, m1, m2]) ⟨_, rfl, rfl, TwoJ.bl (Bl.refl _) (by have := hu.but.size; omega) (by have := hu.but.size; omega)⟩
        · simp only [List.getElem?_toArray, List.getElem?_cons_zero, List.getElem?_cons_succ, Option.some.injEq] at ho
          subst ho
          have i55 : (act.eval (.tmp (55 : Nat))) = .slice px' n cx' := hin ⟨0, .data⟩ (by simp) rfl 55 rfl
          have i56 : (act.eval (.tmp (56 : Nat))) = mV n n (some ⟨g, 0, none⟩) N gc := hin ⟨1, .data⟩ (by simp) rfl 56 rfl
          exact plain_wp (by intro c h; cases h) (fun _ _ => trivial) (by simp only [execOp, List.map_toArray, List.map_cons, List.map_nil, i55, i56]; simp [Tryz.buildRF, Result.andThen, go_sem]) ⟨_, rfl, rfl, TwoJ.bl (Bl.refl _) (by have := hu.but.size; omega) (by have := hu.but.size; omega)⟩
        · simp only [List.getElem?_toArray, List.getElem?_cons_zero, List.getElem?_cons_succ, Option.some.injEq] at ho
          subst ho
          have i15 : act.eval (.tmp (15 : Nat)) = .pointer (some ⟨b15, 0, none⟩) := hfr 15 (by decide)
          exact plain_wp (by intro c h; cases h) (fun _ _ => trivial) (by simp only [execOp, i15, evalC, evalF, evalG]; simp [go_sem, cE0, cE1, cE2]) ⟨_, rfl, rfl, TwoJ.bl (Bl.refl _) (by have := hu.but.size; omega) (by have := hu.but.size; omega)⟩
        · simp only [List.getElem?_toArray, List.getElem?_cons_zero, List.getElem?_cons_succ, Option.some.injEq] at ho
          subst ho
          have i13 : act.eval (.tmp (13 : Nat)) = .pointer (some ⟨b13, 0, none⟩) := hfr 13 (by decide)
          exact plain_wp (by intro c h; cases h) (fun _ _ => trivial) (by simp only [execOp, i13, evalC, evalF, evalG]; simp [go_sem, cA0, cA1, cA2]) ⟨_, rfl, rfl, TwoJ.bl (Bl.refl _) (by have := hu.but.size; omega) (by have := hu.but.size; omega)⟩
        · simp only [List.getElem?_toArray, List.getElem?_cons_zero, List.getElem?_cons_succ, Option.some.injEq] at ho
          subst ho
          have i58 : (act.eval (.tmp (58 : Nat))) = frV e9 := hin ⟨3, .data⟩ (by simp) rfl 58 rfl
          have i59 : (act.eval (.tmp (59 : Nat))) = frV a := hin ⟨4, .data⟩ (by simp) rfl 59 rfl
          exact plain_wp (by intro c h; cases h) (fun _ _ => trivial) (by simp only [execOp, List.map_toArray, List.map_cons, List.map_nil, i58, i59]; simp [Tryz.buildNF, Result.andThen, go_sem]) ⟨_, rfl, rfl, TwoJ.bl (Bl.refl _) (by have := hu.but.size; omega) (by have := hu.but.size; omega)⟩
        · simp only [List.getElem?_toArray, List.getElem?_cons_zero, List.getElem?_cons_succ, Option.some.injEq] at ho
          subst ho
          have i8 : act.eval (.tmp (8 : Nat)) = .pointer (some ⟨w.heap.size + 1 + 1 + 1, 0, none⟩) := hfr 8 (by decide)
          have i57 : (act.eval (.tmp (57 : Nat))) = sJ px' n cx' n n (some ⟨g, 0, none⟩) N gc := hin ⟨2, .data⟩ (by simp) rfl 57 rfl
          obtain ⟨qa, qb, qc, qd, qe, qf, qg, qh, sx⟩ : ∃ px nx cx r c p n cap, SBox u (w.heap.size + 1 + 1 + 1) px nx cx r c p n cap := by
            rcases hu.g8 with e | t
            · exact ⟨_, _, _, _, _, _, _, _, SZ0.out.heap e hu.but.size⟩
            · exact ⟨_, _, _, _, _, _, _, _, t⟩
          have SX := hideP sx
          obtain ⟨d0, d1, d2, d3, x0, x1, x2, x3, ltd⟩ := id sx
          exact skip_wp (by intro c h; cases h) (fun _ _ => trivial) (by simp only [execOp, i8, i57]; simp [go_sem, d0, d1, d2, d3, x0, x1, x2, x3]) ⟨undef, rfl, SX.out.fill _ _ _ _ _ _ _ _, ⟨(((but_cell1 (.inl rfl) _ _ _).trans (but_cell1 (.inl rfl) _ _ _)).trans (but_cell1 (.inl rfl) _ _ _)).trans (but_cell1 (.inl rfl) _ _ _), .inr (SX.out.fill _ _ _ _ _ _ _ _), .inl (by rw [heap1 _ (by omega), heap1 _ (by omega), heap1 _ (by omega), heap1 _ (by omega)])⟩⟩
        · simp only [List.getElem?_toArray, List.getElem?_cons_zero, List.getElem?_cons_succ, Option.some.injEq] at ho
          subst ho
          have i9 : act.eval (.tmp (9 : Nat)) = .pointer (some ⟨w.heap.size + 1 + 1 + 1 + 1, 0, none⟩) := hfr 9 (by decide)
          have i60 : (act.eval (.tmp (60 : Nat))) = newsVF e9 a := hin ⟨5, .data⟩ (by simp) rfl 60 rfl
          obtain ⟨x', y', nx⟩ : ∃ x y, NBoxF u (w.heap.size + 1 + 1 + 1 + 1) x y := by
            rcases hu.l9 with e | t
            · exact ⟨_, _, NZ0.out.heap e hu.but.size⟩
            · exact ⟨_, _, t⟩
          have NX := hideP nx
          obtain ⟨d0, d1, d2, d3, d4, d5, x0, x1, x2, x3, x4, x5, ltd⟩ := id nx
          exact skip_wp (by intro c h; cases h) (fun _ _ => trivial) (by simp only [execOp, i9, i60]; simp [go_sem, d0, d1, d2, d3, d4, d5, x0, x1, x2, x3, x4, x5]) ⟨undef, rfl, NX.out.fill e9 a, ⟨(((((but_cell1 (.inr rfl) _ _ _).trans (but_cell1 (.inr rfl) _ _ _)).trans (but_cell1 (.inr rfl) _ _ _)).trans (but_cell1 (.inr rfl) _ _ _)).trans (but_cell1 (.inr rfl) _ _ _)).trans (but_cell1 (.inr rfl) _ _ _), .inl (by rw [heap1 _ (by omega), heap1 _ (by omega), heap1 _ (by omega), heap1 _ (by omega), heap1 _ (by omega), heap1 _ (by omega)]), .inr (NX.out.fill e9 a)⟩⟩
        · simp only [List.getElem?_toArray, List.getElem?_cons_zero, List.getElem?_cons_succ, Option.some.injEq] at ho
          subst ho
          exact plain_wp (by intro c h; cases h) (fun _ _ => trivial) (by simp only [execOp, evalC, evalF, evalG]; simp [go_sem]) ⟨_, rfl, rfl, TwoJ.bl (Bl.refl _) (by have := hu.but.size; omega) (by have := hu.but.size; omega)⟩
      case fin =>
        intro vs u hu hin hnon
        have a0 := hin 0 55 rfl
        have a1 := hin 1 56 rfl
        have a2 := hin 2 57 rfl
        have a3 := hin 3 58 rfl
        have a4 := hin 4 59 rfl
        have a5 := hin 5 60 rfl
        have a6 := hnon 6 rfl
        have a7 := hnon 7 rfl
        have a8 := hin 8 10 rfl
        simp only [putL, Act.put, List.setIfInBounds_toArray, List.set_cons_zero, List.set_cons_succ, Nat.zero_add, Nat.reduceAdd, if_true, reduceIte] at a0 a1 a2 a3 a4 a5 a6 a7 a8 ⊢
        simp only [a0, a1, a2, a3, a4, a5, a8]
        obtain ⟨d0, d1, d2, d3, _, _, _, _, _⟩ := a6
        obtain ⟨q0, q1, q2, q3, q4, q5, _, _, _, _, _, _, _⟩ := a7
        have HMF := hideP (Mx.but (HZS7.out) hu.but (fun b hb => by cases hb; show ¬ (g = w.heap.size + 1 + 1 + 1 ∨ g = w.heap.size + 1 + 1 + 1 + 1); omega))
        have HRW := hideP (HRX.out.but hu.but (fun b hb => by have := HFX.out b hb; show ¬ (_ = _ ∨ _ = _); omega))
        clear hin hnon
        go_wp2
        simp [bodyPost, results, Tryz.results27, go_sem, d0, d1, d2, d3, q0, q1, q2, q3, q4, q5]
        exact ⟨px', cx', some ⟨g, 0, none⟩, gc, by simp, ⟨HRW.out, HMF.out, fresh_le HFX.out (by omega), fun b hb => by cases hb; show w.heap.size ≤ g; omega⟩, hu.but.bl B7 (fun i hi => by rcases hi with h | h <;> omega)⟩
end Go.Proofs.YtljmggemdkfbiaaGreat

/- The contract of math/bits.LeadingZeros64. -/
namespace Go.Proofs.YtljmggemdkfbiaaGreat
open Go.RowKit
set_option linter.unusedSimpArgs false
set_option linter.unusedVariables false

/-- n is how many bits x has. -/
def LenIs (x n : Int) : Prop := ∃ k : Nat, n = k ∧ k ≤ 64 ∧ x < 2 ^ k ∧ (0 < x → 2 ^ k ≤ 2 * x)

theorem len8_size : Lib.len8tab.size = 256 := by decide +kernel
theorem len8_all : ∀ b : Fin 256, b.val < 2 ^ (Lib.len8tab[b.val]'(by rw [len8_size]; exact b.isLt)).toNat ∧ (0 < b.val → 2 ^ (Lib.len8tab[b.val]'(by rw [len8_size]; exact b.isLt)).toNat ≤ 2 * b.val) ∧ (Lib.len8tab[b.val]'(by rw [len8_size]; exact b.isLt)).toNat ≤ 8 := by decide +kernel
/-- Behind a shift by c bits. -/
theorem len_of (x : Int) (c : Nat) (y : Int) (h0 : 0 ≤ x) (hc : c ≤ 56) (hy : y = x / 2 ^ c) (hb : y < 256) (hl : c = 0 ∨ 0 < y) (hz : y.toNat < Lib.len8tab.size) :
    LenIs x (wrap64 (c + wrap64 ((Lib.len8tab[y.toNat]'hz).toNat : Nat))) := by
  have hp : (0 : Int) < 2 ^ c := Int.pow_pos (by decide)
  have hy0 : 0 ≤ y := by rw [hy]; exact Int.ediv_nonneg h0 (Int.le_of_lt hp)
  obtain ⟨a1, a2, a3⟩ := len8_all ⟨y.toNat, by omega⟩
  simp only at a1 a2 a3
  generalize (Lib.len8tab[y.toNat]'hz).toNat = t at *
  have e1 : wrap64 (t : Int) = t := IntWalk.wrap64_in _ (by omega)
  rw [e1, IntWalk.wrap64_in ((c : Int) + t) (by omega)]
  refine ⟨c + t, by omega, by omega, ?_, ?_⟩
  · have b1 : y + 1 ≤ 2 ^ t := by
      have : ((y.toNat + 1 : Nat) : Int) ≤ ((2 ^ t : Nat) : Int) := by exact_mod_cast a1
      push_cast at this
      omega
    have b2 : x < (y + 1) * 2 ^ c := by
      rw [hy]; exact Int.lt_ediv_add_one_mul_self x hp
    have b3 : (y + 1) * 2 ^ c ≤ 2 ^ t * 2 ^ c := Int.mul_le_mul_of_nonneg_right b1 (Int.le_of_lt hp)
    rw [Int.pow_add, Int.mul_comm]
    omega
  · intro hx
    by_cases hyp : 0 < y
    · have b1 : (2 : Int) ^ t ≤ 2 * y := by
        have := a2 (by omega)
        have : ((2 ^ t : Nat) : Int) ≤ ((2 * y.toNat : Nat) : Int) := by exact_mod_cast this
        push_cast at this
        omega
      have b2 : y * 2 ^ c ≤ x := by rw [hy]; exact Int.ediv_mul_le x (by omega)
      have b3 : (2 : Int) ^ t * 2 ^ c ≤ (2 * y) * 2 ^ c := Int.mul_le_mul_of_nonneg_right b1 (Int.le_of_lt hp)
      rw [Int.pow_add, Int.mul_comm]
      rw [Int.mul_assoc] at b3
      omega
    · have : c = 0 := by omega
      subst this
      simp at hy
      omega

set_option maxHeartbeats 4000000 in
set_option maxRecDepth 100000 in
theorem len64_any (x : Int) (w : World) (h0 : 0 ≤ x) (h1 : x ≤ 18446744073709551615) :
    Calls Tryz.prog 162 #[.int .u64 x] w fun e w' => (∃ n : Int, e = .returned (.int .i64 n) ∧ LenIs x n) ∧ w' = w := by
  have hs := len8_size
  go_enter Tryz.func162, Tryz.ntmps162
  go_wp2
  all_goals (go_ret; refine ⟨⟨_, rfl, ?_⟩, rfl⟩)
  · exact len_of x 56 _ h0 (by decide) (by omega) (by omega) (by omega) _
  · exact len_of x 48 _ h0 (by decide) (by omega) (by omega) (by omega) _
  · exact len_of x 40 _ h0 (by decide) (by omega) (by omega) (by omega) _
  · exact len_of x 32 _ h0 (by decide) (by omega) (by omega) (by omega) _
  · exact len_of x 24 _ h0 (by decide) (by omega) (by omega) (by omega) _
  · exact len_of x 16 _ h0 (by decide) (by omega) (by omega) (by omega) _
  · exact len_of x 8 _ h0 (by decide) (by omega) (by omega) (by omega) _
  · have hz : x.toNat < Lib.len8tab.size := by rw [len8_size]; omega
    have := len_of x 0 x h0 (by decide) (by simp) (by omega) (by omega) hz
    simpa using this

/-- s is how many bits y can be moved up. -/
def LzIs (y s : Int) : Prop := ∃ k : Nat, s = k ∧ k ≤ 63 ∧ y * 2 ^ k < 18446744073709551616 ∧ 9223372036854775808 ≤ y * 2 ^ k
theorem lz_of_len {y n : Int} (h : LenIs y n) (hy : 0 < y) (hy1 : y < 18446744073709551616) : LzIs y (64 - n) := by
  obtain ⟨k, rfl, hk, h1, h2⟩ := h
  have h2 := h2 hy
  have hk0 : 1 ≤ k := by
    rcases Nat.eq_zero_or_pos k with e | e
    · subst e; simp at h1; omega
    · exact e
  refine ⟨64 - k, by omega, by omega, ?_, ?_⟩
  · have hp : (0 : Int) < 2 ^ (64 - k) := Int.pow_pos (by decide)
    have := Int.mul_lt_mul_of_pos_right h1 hp
    rw [← Int.pow_add, show k + (64 - k) = 64 from by omega] at this
    simpa using this
  · have hp : (0 : Int) < 2 ^ (64 - k) := Int.pow_pos (by decide)
    have := Int.mul_le_mul_of_nonneg_right h2 (Int.le_of_lt hp)
    rw [← Int.pow_add, show k + (64 - k) = 64 from by omega, Int.mul_assoc] at this
    have e : (2 : Int) ^ 64 = 18446744073709551616 := by decide
    rw [e] at this
    omega

theorem lz64_any (y : Int) (w : World) (h0 : 0 < y) (h1 : y < 18446744073709551616) :
    Calls Tryz.prog 151 #[.int .u64 y] w fun e w' => (∃ s : Int, e = .returned (.int .i64 s) ∧ LzIs y s) ∧ w' = w := by
  go_enter Tryz.func151, Tryz.ntmps151
  go_wp2_with fail
  refine (len64_any y _ (by omega) (by omega)).mono ?_
  rintro e w' ⟨⟨n, rfl, hn⟩, rfl⟩
  have hb : 0 ≤ n ∧ n ≤ 64 := by obtain ⟨k, rfl, hk, _⟩ := hn; omega
  obtain ⟨b1, b2⟩ := hb
  have H : Hid (LenIs y n) := hn
  clear hn
  go_wp2
  go_ret
  exact ⟨⟨_, rfl, lz_of_len H.out h0 h1⟩, rfl⟩
end Go.Proofs.YtljmggemdkfbiaaGreat

/- Plain arithmetic: a digit of a quotient, guessed and mended; the words of a number that is moved up. -/
namespace Go.Proofs.YtljmggemdkfbiaaGreat

/-- What is known of a digit: U·B + d by Y = y1·B + y0. -/
structure Digit (U d Y y1 y0 Q R : Int) : Prop where
  hY : Y = y1 * 4294967296 + y0
  y0n : 0 ≤ y0
  y0l : y0 < 4294967296
  y1l : 2147483648 ≤ y1
  y1h : y1 < 4294967296
  dn : 0 ≤ d
  dl : d < 4294967296
  Un : 0 ≤ U
  Ul : U < Y
  Qn : 0 ≤ Q
  Ql : Q ≤ 4294967295
  Rn : 0 ≤ R
  Rl : R < Y
  eq : U * 4294967296 + d = Q * Y + R

theorem digit_mk {U d Y y1 y0 : Int} (hY : Y = y1 * 4294967296 + y0) (y0n : 0 ≤ y0) (y0l : y0 < 4294967296) (y1l : 2147483648 ≤ y1) (y1h : y1 < 4294967296)
    (dn : 0 ≤ d) (dl : d < 4294967296) (Un : 0 ≤ U) (Ul : U < Y) : ∃ Q R, Digit U d Y y1 y0 Q R := by
  have hYp : 0 < Y := by omega
  have hN : 0 ≤ U * 4294967296 + d := by omega
  refine ⟨(U * 4294967296 + d) / Y, (U * 4294967296 + d) % Y, hY, y0n, y0l, y1l, y1h, dn, dl, Un, Ul, Int.ediv_nonneg hN (by omega), ?_, Int.emod_nonneg _ (by omega), Int.emod_lt_of_pos _ hYp, ?_⟩
  · have : (U * 4294967296 + d) / Y < 4294967296 := by
      apply Int.ediv_lt_of_lt_mul hYp
      omega
    omega
  · rw [Int.mul_comm ((U * 4294967296 + d) / Y) Y]
    exact (Int.mul_ediv_add_emod _ _).symm

theorem Digit.le_of {U d Y y1 y0 Q R : Int} (D : Digit U d Y y1 y0 Q R) (q : Int) (h : q * Y ≤ U * 4294967296 + d) : q ≤ Q := by
  obtain ⟨hY, y0n, y0l, y1l, y1h, dn, dl, Un, Ul, Qn, Ql, Rn, Rl, eq⟩ := D
  rcases Int.lt_or_le Q q with h' | h'
  · have := Int.mul_le_mul_of_nonneg_right (show Q + 1 ≤ q by omega) (show 0 ≤ Y by omega)
    rw [Int.add_mul, Int.one_mul] at this
    omega
  · exact h'

theorem Digit.mulY {U d Y y1 y0 Q R : Int} (D : Digit U d Y y1 y0 Q R) (q : Int) : q * Y = q * y1 * 4294967296 + q * y0 := by
  rw [D.hY, Int.mul_add, Int.mul_assoc]

theorem Digit.first {U d Y y1 y0 Q R : Int} (D : Digit U d Y y1 y0 Q R) : Q ≤ U / y1 ∧ U / y1 ≤ 4294967297 ∧ 0 ≤ U / y1 * y1 ∧ U / y1 * y1 ≤ U ∧ U - U / y1 * y1 < y1 := by
  have hm := D.mulY Q
  obtain ⟨hY, y0n, y0l, y1l, y1h, dn, dl, Un, Ul, Qn, Ql, Rn, Rl, eq⟩ := D
  have e1 := Int.mul_ediv_add_emod U y1
  have e2 := Int.emod_nonneg U (show y1 ≠ 0 by omega)
  have e3 := Int.emod_lt_of_pos U (show 0 < y1 by omega)
  have e4 := Int.ediv_nonneg Un (show 0 ≤ y1 by omega)
  rw [Int.mul_comm y1 (U / y1)] at e1
  have e5 : 0 ≤ Q * y0 := Int.mul_nonneg Qn y0n
  have e6 : Q * y1 ≤ U := by omega
  refine ⟨(Int.le_ediv_iff_mul_le (by omega)).2 e6, ?_, Int.mul_nonneg e4 (by omega), by omega, by omega⟩
  have : U / y1 < 4294967298 := by
    apply Int.ediv_lt_of_lt_mul (by omega)
    omega
  omega

/-- The loop goes on: the digit is less. -/
theorem Digit.more {U d Y y1 y0 Q R : Int} (D : Digit U d Y y1 y0 Q R) (q r : Int) (hr : r = U - q * y1) (hq : Q ≤ q) (h : 4294967296 ≤ q ∨ 4294967296 * r + d < q * y0) : Q ≤ q - 1 := by
  rcases h with h | h
  · have := D.Ql; omega
  · rcases Int.lt_or_le Q q with h' | h'
    · omega
    · exfalso
      have e : q = Q := by omega
      subst e
      have hm := D.mulY q
      have := D.eq
      have := D.Rn
      omega

/-- The loop ends by its test: it is the digit. -/
theorem Digit.done {U d Y y1 y0 Q R : Int} (D : Digit U d Y y1 y0 Q R) (q r : Int) (hr : r = U - q * y1) (hq : Q ≤ q) (h : ¬ 4294967296 * r + d < q * y0) : q = Q := by
  have hm := D.mulY q
  have := D.le_of q (by omega)
  omega

/-- The loop ends by its break: it is the digit. -/
theorem Digit.broke {U d Y y1 y0 Q R : Int} (D : Digit U d Y y1 y0 Q R) (q r : Int) (hr : r = U - q * y1) (hq : Q ≤ q) (hb : q ≤ 4294967296) (h : 4294967296 ≤ r) : q = Q := by
  have hm := D.mulY q
  have h1 := Int.mul_le_mul hb (show y0 ≤ 4294967295 by have := D.y0l; omega) D.y0n (by omega)
  have := D.dn
  have := D.le_of q (by omega)
  omega

/-- The rest, as it is reckoned with wraps. -/
theorem Digit.rest {U d Y y1 y0 Q R : Int} (D : Digit U d Y y1 y0 Q R) (hYl : Y < 18446744073709551616) : IntKind.u64.wrap (IntKind.u64.wrap (IntKind.u64.wrap (U * 4294967296) + d) - IntKind.u64.wrap (Q * Y)) = R := by
  obtain ⟨hY, y0n, y0l, y1l, y1h, dn, dl, Un, Ul, Qn, Ql, Rn, Rl, eq⟩ := D
  simp only [IntKind.wrap_u64]
  omega

theorem Digit.q_mul {U d Y y1 y0 Q R : Int} (D : Digit U d Y y1 y0 Q R) (q : Int) (h0 : 0 ≤ q) (h : q < 4294967296) : 0 ≤ q * y0 ∧ q * y0 < 18446744073709551616 := by
  refine ⟨Int.mul_nonneg h0 D.y0n, ?_⟩
  have h1 := Int.mul_le_mul (show q ≤ 4294967295 by omega) (show y0 ≤ 4294967295 by have := D.y0l; omega) D.y0n (by omega)
  omega

theorem up_words (lo : Int) (k : Nat) (hk : k ≤ 63) : lo * 2 ^ k = lo / 2 ^ (64 - k) * 18446744073709551616 + lo * 2 ^ k % 18446744073709551616 := by
  have e : (18446744073709551616 : Int) = 2 ^ (64 - k) * 2 ^ k := by
    rw [← Int.pow_add, show 64 - k + k = 64 from by omega]; decide
  have e2 : lo * 2 ^ k / 18446744073709551616 = lo / 2 ^ (64 - k) := by
    rw [e, Int.mul_ediv_mul_of_pos_left _ _ (Int.pow_pos (by decide))]
  have := Int.mul_ediv_add_emod (lo * 2 ^ k) 18446744073709551616
  rw [e2] at this
  omega

theorem up_low (lo : Int) (k : Nat) (hk : k ≤ 63) (h0 : 0 ≤ lo) (h1 : lo < 18446744073709551616) : 0 ≤ lo / 2 ^ (64 - k) ∧ lo / 2 ^ (64 - k) < 2 ^ k := by
  have hp : (0 : Int) < 2 ^ (64 - k) := Int.pow_pos (by decide)
  refine ⟨Int.ediv_nonneg h0 (Int.le_of_lt hp), Int.ediv_lt_of_lt_mul hp ?_⟩
  rw [← Int.pow_add, show k + (64 - k) = 64 from by omega]
  exact h1

theorem or_words (hi lo : Int) (k : Nat) (hk : k ≤ 63) (h0 : 0 ≤ hi) (hh : hi * 2 ^ k < 18446744073709551616) (l0 : 0 ≤ lo) (l1 : lo < 18446744073709551616) :
    bits .or .u64 (hi * 2 ^ k) (lo / 2 ^ (64 - k)) = hi * 2 ^ k + lo / 2 ^ (64 - k) := by
  obtain ⟨a, b⟩ := up_low lo k hk l0 l1
  have hp : (2 : Int) ^ k ≤ 2 ^ 63 := by
    have : (2 : Nat) ^ k ≤ 2 ^ 63 := Nat.pow_le_pow_right (by decide) hk
    exact_mod_cast this
  have e63 : (2 : Int) ^ 63 = 9223372036854775808 := by decide
  rw [e63] at hp
  refine bits_join .u64 64 (by decide) (fun n h h' => ?_) k _ _ (Int.mul_nonneg h0 (Int.le_of_lt (Int.pow_pos (by decide)))) (Int.mul_emod_left _ _) hh a b (by omega)
  rw [IntKind.wrap_u64]
  have e64 : (2 : Int) ^ 64 = 18446744073709551616 := by decide
  rw [e64] at h'
  omega

/-- The whole: both digits make the quotient; the last rest, moved down, is the rest. -/
theorem two_digits {hi lo y Y U V v1 v0 y1 y0 Q1 R1 Q0 R0 : Int} {k : Nat} (hy : 0 < y) (hY : y * 2 ^ k = Y)
    (hU : (hi * 18446744073709551616 + lo) * 2 ^ k = U * 18446744073709551616 + V) (hV : V = v1 * 4294967296 + v0)
    (D1 : Digit U v1 Y y1 y0 Q1 R1) (D0 : Digit R1 v0 Y y1 y0 Q0 R0) :
    (hi * 18446744073709551616 + lo) / y = Q1 * 4294967296 + Q0 ∧ (hi * 18446744073709551616 + lo) % y = R0 / 2 ^ k := by
  have e1 := D1.eq
  have e0 := D0.eq
  have hp : (0 : Int) < 2 ^ k := Int.pow_pos (by decide)
  have r0 := D0.Rn
  have r1 := D0.Rl
  generalize hn : hi * 18446744073709551616 + lo = n at *
  generalize hP : (2 : Int) ^ k = P at *
  have e : n * P = (Q1 * 4294967296 + Q0) * y * P + R0 := by
    rw [Int.mul_assoc, hY, Int.add_mul]
    have : Q1 * 4294967296 * Y = (Q1 * Y) * 4294967296 := by rw [Int.mul_assoc, Int.mul_comm 4294967296 Y, Int.mul_assoc]
    omega
  have hr : R0 = (n - (Q1 * 4294967296 + Q0) * y) * P := by rw [Int.sub_mul]; omega
  generalize hq : Q1 * 4294967296 + Q0 = q at *
  generalize hm : n - q * y = m at *
  have m0 : 0 ≤ m := by
    rcases Int.lt_or_le m 0 with h | h
    · have := Int.mul_neg_of_neg_of_pos h hp; omega
    · exact h
  have m1 : m < y := by
    rcases Int.lt_or_le m y with h | h
    · exact h
    · have := Int.mul_le_mul_of_nonneg_right h (Int.le_of_lt hp); omega
  have hd : R0 / P = m := by rw [hr]; exact Int.mul_ediv_cancel _ (by omega)
  have en : n = m + y * q := by rw [Int.mul_comm y q]; omega
  rw [hd, en]
  constructor
  · rw [Int.add_mul_ediv_left _ _ (by omega), Int.ediv_eq_zero_of_lt m0 m1]; omega
  · rw [Int.add_mul_emod_self_left, Int.emod_eq_of_lt m0 m1]
end Go.Proofs.YtljmggemdkfbiaaGreat

/- The contract of math/bits.Div64. -/
namespace Go.Proofs.YtljmggemdkfbiaaGreat
open Go.RowKit
set_option linter.unusedSimpArgs false
set_option linter.unusedVariables false

theorem SmallBl (B : Nat) (w : World) (n : Nat) : Below B w (w.drewN n) := ⟨rfl, rfl, rfl, Nat.le_refl _, fun _ _ => rfl⟩
theorem div64_low (lo y : Int) (w : World) (hl : U64 lo) (hy : U64 y) (hlt : 0 < y) :
    Calls Tryz.prog 127 #[.int .u64 0, .int .u64 lo, .int .u64 y] w fun e w' =>
      (e = .returned (.tuple #[.int .u64 (lo / y), .int .u64 (lo % y)])) ∧ Below w.heap.size w w' := by
  obtain ⟨l0, l1⟩ := hl
  obtain ⟨y0, y1⟩ := hy
  have h1 : (y == 0) = false := by simp; omega
  have h2 : ¬ y ≤ 0 := by omega
  go_enter Tryz.func127, Tryz.ntmps127
  go_wp2
  go_quiet (fail)
  go_wp2
  go_ret2
  exact ⟨rfl, SmallBl _ _ _⟩

set_option maxHeartbeats 1000000 in
theorem div64_high (hi lo y : Int) (w : World) (hl : U64 lo) (hy : U64 y) (h0 : 0 < hi) (hlt : hi < y) :
    Calls Tryz.prog 127 #[.int .u64 hi, .int .u64 lo, .int .u64 y] w fun e w' =>
      (e = .returned (.tuple #[.int .u64 ((hi * 18446744073709551616 + lo) / y), .int .u64 ((hi * 18446744073709551616 + lo) % y)])) ∧ Below w.heap.size w w' := by
  obtain ⟨l0, l1⟩ := hl
  obtain ⟨y0, y1⟩ := hy
  have h1 : (y == 0) = false := by simp; omega
  have h2 : ¬ y ≤ hi := by omega
  have h3 : (hi == 0) = false := by simp; omega
  go_enter Tryz.func127, Tryz.ntmps127
  go_wp2_with fail
  refine (lz64_any y _ (by omega) y1).mono ?_
  rintro e w' ⟨⟨s, rfl, hs⟩, rfl⟩
  obtain ⟨k, rfl, hk, b1, b2⟩ := hs
  have hp : (0 : Int) < 2 ^ k := Int.pow_pos (by decide)
  have n1 : 0 ≤ hi * 2 ^ k := Int.mul_nonneg (by omega) (by omega)
  have n2 : hi * 2 ^ k + 2 ^ k ≤ y * 2 ^ k := by
    have := Int.mul_le_mul_of_nonneg_right (show hi + 1 ≤ y by omega) (Int.le_of_lt hp)
    rw [Int.add_mul, Int.one_mul] at this; exact this
  have hor := or_words hi lo k (by omega) (by omega) (by omega) l0 l1
  obtain ⟨n3, n4⟩ := up_low lo k (by omega) l0 l1
  have hwd := up_words lo k (by omega)
  have hUV : (hi * 18446744073709551616 + lo) * 2 ^ k = (hi * 2 ^ k + lo / 2 ^ (64 - k)) * 18446744073709551616 + IntKind.u64.wrap (lo * 2 ^ k) := by
    rw [IntKind.wrap_u64, Int.add_mul, Int.add_mul, Int.mul_assoc, Int.mul_comm 18446744073709551616 (2 ^ k), ← Int.mul_assoc, hwd]
    omega
  have hV : 0 ≤ IntKind.u64.wrap (lo * 2 ^ k) ∧ IntKind.u64.wrap (lo * 2 ^ k) < 18446744073709551616 := by rw [IntKind.wrap_u64]; omega
  rw [← hor] at hUV
  have hU : 0 ≤ bits .or .u64 (hi * 2 ^ k) (lo / 2 ^ (64 - k)) ∧ bits .or .u64 (hi * 2 ^ k) (lo / 2 ^ (64 - k)) < y * 2 ^ k := by rw [hor]; omega
  have HH : Hid ((hi * 18446744073709551616 + lo) * 2 ^ k = bits .or .u64 (hi * 2 ^ k) (lo / 2 ^ (64 - k)) * 18446744073709551616 + IntKind.u64.wrap (lo * 2 ^ k)) := hUV
  clear hUV hwd hor n4
  have hYa := and_low32 (y * 2 ^ k) (by omega) b1
  have hVa := and_low32 (IntKind.u64.wrap (lo * 2 ^ k)) hV.1 hV.2
  have hw1 : IntKind.u64.wrap (hi * 2 ^ k) = hi * 2 ^ k := by rw [IntKind.wrap_u64]; omega
  clear n3 n1 n2
  generalize gY : y * 2 ^ k = Y at *
  generalize gU : bits .or .u64 (hi * 2 ^ k) (lo / 2 ^ (64 - k)) = U at *
  generalize gV : IntKind.u64.wrap (lo * 2 ^ k) = V at *
  obtain ⟨U0, U1⟩ := hU
  obtain ⟨V0, V1⟩ := hV
  have HY : Hid (Y = Y / 4294967296 * 4294967296 + Y % 4294967296) := by show _ = _; omega
  have HV : Hid (V = V / 4294967296 * 4294967296 + V % 4294967296) := by show _ = _; omega
  have a1 : 2147483648 ≤ Y / 4294967296 ∧ Y / 4294967296 < 4294967296 := by omega
  have a0 : 0 ≤ Y % 4294967296 ∧ Y % 4294967296 < 4294967296 := by omega
  have c1 : 0 ≤ V / 4294967296 ∧ V / 4294967296 < 4294967296 := by omega
  have c0 : 0 ≤ V % 4294967296 ∧ V % 4294967296 < 4294967296 := by omega
  generalize gy1 : Y / 4294967296 = y1 at *
  generalize gy0 : Y % 4294967296 = y0 at *
  generalize gv1 : V / 4294967296 = v1 at *
  generalize gv0 : V % 4294967296 = v0 at *
  obtain ⟨a1, a1'⟩ := a1
  obtain ⟨a0, a0'⟩ := a0
  obtain ⟨c1, c1'⟩ := c1
  obtain ⟨c0, c0'⟩ := c0
  obtain ⟨Q1, R1, D1⟩ := digit_mk (U := U) (d := v1) HY.out a0 a0' a1 a1' c1 c1' U0 U1
  obtain ⟨Q0, R0, D0⟩ := digit_mk (U := R1) (d := v0) HY.out a0 a0' a1 a1' c0 c0' D1.Rn D1.Rl
  have fin := two_digits (by omega) gY HH.out HV.out D1 D0
  have HF : Hid ((hi * 18446744073709551616 + lo) / y = Q1 * 4294967296 + Q0 ∧ (hi * 18446744073709551616 + lo) % y = R0 / 2 ^ k) := fin
  clear fin HY HV HH
  obtain ⟨f1, f2, f3, f4, f5⟩ := D1.first
  obtain ⟨s1, s2, s3, s4, s5⟩ := D0.first
  have rR1 := D1.rest b1
  have rR0 := D0.rest b1
  have q1n := D1.Qn
  have q1l := D1.Ql
  have q0n := D0.Qn
  have q0l := D0.Ql
  have r1n := D1.Rn
  have r1l := D1.Rl
  have r0n := D0.Rn
  have r0l := D0.Rl
  generalize gq : U / y1 = qq at *
  generalize gp : R1 / y1 = pp at *
  go_wp2_with fail
  clear gU gV gy0 gv1 gv0 hYa hVa hw1
  go_loop [15, 16] (fun a b => ∃ q r : Int, a = .int .u64 q ∧ b = .int .u64 r ∧ r = U - q * y1 ∧ 0 ≤ r ∧ r < 4294967296 ∧ Q1 ≤ q ∧ q ≤ 4294967297) (fun a _ => (intOf a).toNat)
  case atStart => exact ⟨qq, U - qq * y1, by rw [← gq], by rw [← gq], rfl, by omega, by omega, f1, f2⟩
  case round =>
    clear f1 f2 f3 f4 f5
    obtain ⟨q, r, rfl, rfl, hr, hr0, hr1, hq1, hq2⟩ := hrel
    have HR : Hid (r = U - q * y1) := hr
    clear hr
    by_cases hb : 4294967296 ≤ q
    · have hm := D1.more q r HR.out hq1 (.inl hb)
      have HR' : Hid (r + y1 = U - (q - 1) * y1) := by show _ = _; rw [Int.sub_mul, Int.one_mul]; have := HR.out; omega
      by_cases hbr : 4294967296 ≤ r + y1
      · have hd := D1.broke (q - 1) (r + y1) HR'.out hm (by omega) hbr
        go_wp2_with fail
        clear hq1 hq2 hr0 hr1 hb
        try clear hm hbr hc
        go_loop [18, 16] (fun a b => ∃ q r : Int, a = .int .u64 q ∧ b = .int .u64 r ∧ r = R1 - q * y1 ∧ 0 ≤ r ∧ r < 4294967296 ∧ Q0 ≤ q ∧ q ≤ 4294967297) (fun a _ => (intOf a).toNat)
        case atStart => exact ⟨pp, R1 - pp * y1, rfl, rfl, rfl, by omega, by omega, s1, s2⟩
        case round =>
          obtain ⟨q, r, rfl, rfl, hr, hr0, hr1, hq1, hq2⟩ := hrel
          have HR : Hid (r = R1 - q * y1) := hr
          clear hr
          by_cases hb : 4294967296 ≤ q
          · have hm := D0.more q r HR.out hq1 (.inl hb)
            have HR' : Hid (r + y1 = R1 - (q - 1) * y1) := by show _ = _; rw [Int.sub_mul, Int.one_mul]; have := HR.out; omega
            by_cases hbr : 4294967296 ≤ r + y1
            · have hd := D0.broke (q - 1) (r + y1) HR'.out hm (by omega) hbr
              go_wp2
              go_ret2
              refine ⟨?_, Below.refl _ _⟩
              rw [HF.out.1, HF.out.2]
              rfl
            · go_wp2
              go_round
              case rel => exact ⟨q - 1, r + y1, rfl, rfl, HR'.out, by omega, by omega, hm, by omega⟩
              case measure => simp [intOf]; omega
          · obtain ⟨m0, m1⟩ := D0.q_mul q (by omega) (by omega)
            by_cases hc : 4294967296 * r + v0 < q * y0
            · have hm := D0.more q r HR.out hq1 (.inr hc)
              have HR' : Hid (r + y1 = R1 - (q - 1) * y1) := by show _ = _; rw [Int.sub_mul, Int.one_mul]; have := HR.out; omega
              by_cases hbr : 4294967296 ≤ r + y1
              · have hd := D0.broke (q - 1) (r + y1) HR'.out hm (by omega) hbr
                go_wp2
                go_ret2
                refine ⟨?_, Below.refl _ _⟩
                rw [HF.out.1, HF.out.2]
                rfl
              · go_wp2
                go_round
                case rel => exact ⟨q - 1, r + y1, rfl, rfl, HR'.out, by omega, by omega, hm, by omega⟩
                case measure => simp [intOf]; omega
            · have hd := D0.done q r HR.out hq1 hc
              subst hd
              go_wp2
              go_ret2
              refine ⟨?_, Below.refl _ _⟩
              rw [HF.out.1, HF.out.2]
              rfl
      · go_wp2
        go_round
        case rel => exact ⟨q - 1, r + y1, rfl, rfl, HR'.out, by omega, by omega, hm, by omega⟩
        case measure => simp [intOf]; omega
    · obtain ⟨m0, m1⟩ := D1.q_mul q (by omega) (by omega)
      by_cases hc : 4294967296 * r + v1 < q * y0
      · have hm := D1.more q r HR.out hq1 (.inr hc)
        have HR' : Hid (r + y1 = U - (q - 1) * y1) := by show _ = _; rw [Int.sub_mul, Int.one_mul]; have := HR.out; omega
        by_cases hbr : 4294967296 ≤ r + y1
        · have hd := D1.broke (q - 1) (r + y1) HR'.out hm (by omega) hbr
          go_wp2_with fail
          clear hq1 hq2 hr0 hr1 hb
          try clear hm hbr hc
          go_loop [18, 16] (fun a b => ∃ q r : Int, a = .int .u64 q ∧ b = .int .u64 r ∧ r = R1 - q * y1 ∧ 0 ≤ r ∧ r < 4294967296 ∧ Q0 ≤ q ∧ q ≤ 4294967297) (fun a _ => (intOf a).toNat)
          case atStart => exact ⟨pp, R1 - pp * y1, rfl, rfl, rfl, by omega, by omega, s1, s2⟩
          case round =>
            obtain ⟨q, r, rfl, rfl, hr, hr0, hr1, hq1, hq2⟩ := hrel
            have HR : Hid (r = R1 - q * y1) := hr
            clear hr
            by_cases hb : 4294967296 ≤ q
            · have hm := D0.more q r HR.out hq1 (.inl hb)
              have HR' : Hid (r + y1 = R1 - (q - 1) * y1) := by show _ = _; rw [Int.sub_mul, Int.one_mul]; have := HR.out; omega
              by_cases hbr : 4294967296 ≤ r + y1
              · have hd := D0.broke (q - 1) (r + y1) HR'.out hm (by omega) hbr
                go_wp2
                go_ret2
                refine ⟨?_, Below.refl _ _⟩
                rw [HF.out.1, HF.out.2]
                rfl
              · go_wp2
                go_round
                case rel => exact ⟨q - 1, r + y1, rfl, rfl, HR'.out, by omega, by omega, hm, by omega⟩
                case measure => simp [intOf]; omega
            · obtain ⟨m0, m1⟩ := D0.q_mul q (by omega) (by omega)
              by_cases hc : 4294967296 * r + v0 < q * y0
              · have hm := D0.more q r HR.out hq1 (.inr hc)
                have HR' : Hid (r + y1 = R1 - (q - 1) * y1) := by show _ = _; rw [Int.sub_mul, Int.one_mul]; have := HR.out; omega
                by_cases hbr : 4294967296 ≤ r + y1
                · have hd := D0.broke (q - 1) (r + y1) HR'.out hm (by omega) hbr
                  go_wp2
                  go_ret2
                  refine ⟨?_, Below.refl _ _⟩
                  rw [HF.out.1, HF.out.2]
                  rfl
                · go_wp2
                  go_round
                  case rel => exact ⟨q - 1, r + y1, rfl, rfl, HR'.out, by omega, by omega, hm, by omega⟩
                  case measure => simp [intOf]; omega
              · have hd := D0.done q r HR.out hq1 hc
                subst hd
                go_wp2
                go_ret2
                refine ⟨?_, Below.refl _ _⟩
                rw [HF.out.1, HF.out.2]
                rfl
        · go_wp2
          go_round
          case rel => exact ⟨q - 1, r + y1, rfl, rfl, HR'.out, by omega, by omega, hm, by omega⟩
          case measure => simp [intOf]; omega
      · have hd := D1.done q r HR.out hq1 hc
        subst hd
        go_wp2_with fail
        clear hq1 hq2 hr0 hr1 hb
        try clear hm hbr hc
        go_loop [18, 16] (fun a b => ∃ q r : Int, a = .int .u64 q ∧ b = .int .u64 r ∧ r = R1 - q * y1 ∧ 0 ≤ r ∧ r < 4294967296 ∧ Q0 ≤ q ∧ q ≤ 4294967297) (fun a _ => (intOf a).toNat)
        case atStart => exact ⟨pp, R1 - pp * y1, rfl, rfl, rfl, by omega, by omega, s1, s2⟩
        case round =>
          obtain ⟨q, r, rfl, rfl, hr, hr0, hr1, hq1, hq2⟩ := hrel
          have HR : Hid (r = R1 - q * y1) := hr
          clear hr
          by_cases hb : 4294967296 ≤ q
          · have hm := D0.more q r HR.out hq1 (.inl hb)
            have HR' : Hid (r + y1 = R1 - (q - 1) * y1) := by show _ = _; rw [Int.sub_mul, Int.one_mul]; have := HR.out; omega
            by_cases hbr : 4294967296 ≤ r + y1
            · have hd := D0.broke (q - 1) (r + y1) HR'.out hm (by omega) hbr
              go_wp2
              go_ret2
              refine ⟨?_, Below.refl _ _⟩
              rw [HF.out.1, HF.out.2]
              rfl
            · go_wp2
              go_round
              case rel => exact ⟨q - 1, r + y1, rfl, rfl, HR'.out, by omega, by omega, hm, by omega⟩
              case measure => simp [intOf]; omega
          · obtain ⟨m0, m1⟩ := D0.q_mul q (by omega) (by omega)
            by_cases hc : 4294967296 * r + v0 < q * y0
            · have hm := D0.more q r HR.out hq1 (.inr hc)
              have HR' : Hid (r + y1 = R1 - (q - 1) * y1) := by show _ = _; rw [Int.sub_mul, Int.one_mul]; have := HR.out; omega
              by_cases hbr : 4294967296 ≤ r + y1
              · have hd := D0.broke (q - 1) (r + y1) HR'.out hm (by omega) hbr
                go_wp2
                go_ret2
                refine ⟨?_, Below.refl _ _⟩
                rw [HF.out.1, HF.out.2]
                rfl
              · go_wp2
                go_round
                case rel => exact ⟨q - 1, r + y1, rfl, rfl, HR'.out, by omega, by omega, hm, by omega⟩
                case measure => simp [intOf]; omega
            · have hd := D0.done q r HR.out hq1 hc
              subst hd
              go_wp2
              go_ret2
              refine ⟨?_, Below.refl _ _⟩
              rw [HF.out.1, HF.out.2]
              rfl
end Go.Proofs.YtljmggemdkfbiaaGreat

/- The contract of wide.MulDiv. -/
namespace Go.Proofs.YtljmggemdkfbiaaGreat
open Go.RowKit
set_option linter.unusedSimpArgs false
set_option linter.unusedVariables false

theorem div64_any (p y : Int) (w : World) (hp : 0 ≤ p) (hy : U64 y) (hlt : p / 18446744073709551616 < y) :
    Calls Tryz.prog 127 #[.int .u64 (p / 18446744073709551616), .int .u64 (p % 18446744073709551616), .int .u64 y] w fun e w' =>
      (e = .returned (.tuple #[.int .u64 (p / y), .int .u64 (p % y)])) ∧ Bl w w' := by
  have hl : U64 (p % 18446744073709551616) := ⟨by omega, by omega⟩
  have e : p = p / 18446744073709551616 * 18446744073709551616 + p % 18446744073709551616 := by omega
  rcases (by omega : p / 18446744073709551616 = 0 ∨ 0 < p / 18446744073709551616) with h | h
  · have := div64_low (p % 18446744073709551616) y w hl hy (by omega)
    rw [h]
    rw [h, Int.zero_mul, Int.zero_add] at e
    rw [← e] at this
    rw [← e]
    exact this
  · have := div64_high (p / 18446744073709551616) (p % 18446744073709551616) y w hl hy h hlt
    rw [← e] at this
    exact this

/-- Is a times b by c below 0? -/
def belB (a b c : Int) : Bool := decide (a * b * c < 0)
/-- What is left of a times b by c, without signs, rounded. -/
def mdC (a b c mode : Int) : Int := upI (szI a * szI b / szI c) (outB (szI a * szI b / szI c) (szI a * szI b % szI c) (szI c) (belB a b c) mode)
def mdG (a b c mode : Int) : Bool := rightB a && rightB b && rightB c && !(c == 0) && modeB mode
/-- P1.1: MulDiv. -/
def mdN (a b c mode : Int) : Int := if mdG a b c mode then rdN (mdC a b c mode) (belB a b c) else 0
def mdB (a b c mode : Int) : Bool := mdG a b c mode && rdB (mdC a b c mode)

theorem upI_le (q : Int) (o : Bool) : q ≤ upI q o := by unfold upI; split <;> omega

set_option maxHeartbeats 1000000 in
theorem mulDiv_good (a b c mode : Int) (ha : rightB a = true) (hb : rightB b = true) (hc : rightB c = true) (hz : (c == 0) = false) (hm : modeB mode = true) (w : World) :
    Calls Tryz.prog 124 #[.int .i64 a, .int .i64 b, .int .i64 c, .int .i64 mode] w fun e w' =>
      e = .returned (.tuple #[.int .i64 (rdN (mdC a b c mode) (belB a b c)), .bool (rdB (mdC a b c mode))]) ∧ Bl w w' := by
  have e1 : wrap64 (cmpI a 0 * cmpI b 0) = cmpI (a * b) 0 := by rw [sgn_mul]; exact wrap64_unit (cmpI_bd _ _)
  have e2 : wrap64 (cmpI (a * b) 0 * cmpI c 0) = cmpI (a * b * c) 0 := by rw [sgn_mul]; exact wrap64_unit (cmpI_bd _ _)
  have e3 : decide (cmpI (a * b * c) 0 < 0) = belB a b c := by
    unfold belB
    rcases cmpI_three (a * b * c) 0 with ⟨h, e⟩ | ⟨h, e⟩ | ⟨h, e⟩ <;> rw [e] <;> simp <;> omega
  have hp := mul_hi (szI_right ha) (szI_right hb)
  have hd := szI_right hc
  have hd0 : 0 < szI c := by
    have : c ≠ 0 := by simpa using hz
    unfold szI; split <;> omega
  have ia := right_i64 ha
  have ib := right_i64 hb
  have ic := right_i64 hc
  unfold mdC
  have P := product_any a b ia ib
  have S := size_any c ic
  generalize szI a * szI b = p at *
  generalize szI c = d at *
  generalize belB a b c = bl at *
  have HP : Hid _ := P
  have HS : Hid _ := S
  clear P S
  by_cases hbig : d ≤ p / 18446744073709551616
  · have hq : 4611686018427387903 < p / d := by
      have := (Int.le_ediv_iff_mul_le (c := d) (a := 18446744073709551616) (b := p) hd0).2 (by omega)
      omega
    have hu := upI_le (p / d) (outB (p / d) (p % d) d bl mode)
    have r1 : rdN (upI (p / d) (outB (p / d) (p % d) d bl mode)) bl = 0 := by unfold rdN; rw [if_pos (by omega)]
    have r2 : rdB (upI (p / d) (outB (p / d) (p % d) d bl mode)) = false := by unfold rdB; exact decide_eq_false (by omega)
    rw [r1, r2]
    clear r1 r2 hu hq e1 e2 e3
    go_enter Tryz.func124, Tryz.ntmps124
    go_wp2_with (first
      | (go_at_call 145; refine (right_any _ _).mono ?_; rintro e w' ⟨rfl, rfl⟩)
      | (go_at_call 146; refine (isMode_any _ _).mono ?_; rintro e w' ⟨rfl, rfl⟩))
    refine (HP.out _).mono ?_
    rintro e w1 ⟨rfl, h1⟩
    go_wp2_with fail
    refine (HS.out _).mono ?_
    rintro e w2 ⟨rfl, rfl⟩
    go_wp2
    go_ret2
    exact ⟨rfl, h1.alloc _⟩
  · go_enter Tryz.func124, Tryz.ntmps124
    go_wp2_with (first
      | (go_at_call 145; refine (right_any _ _).mono ?_; rintro e w' ⟨rfl, rfl⟩)
      | (go_at_call 146; refine (isMode_any _ _).mono ?_; rintro e w' ⟨rfl, rfl⟩))
    refine (HP.out _).mono ?_
    rintro e w1 ⟨rfl, h1⟩
    go_wp2_with fail
    refine (HS.out _).mono ?_
    rintro e w2 ⟨rfl, rfl⟩
    go_wp2_with fail
    refine (div64_any p d _ hp.1 (by unfold U64; omega) (by omega)).mono ?_
    rintro e w3 ⟨rfl, h3⟩
    have q0 : 0 ≤ p / d := Int.ediv_nonneg hp.1 (by omega)
    have r0 : 0 ≤ p % d := Int.emod_nonneg _ (by omega)
    have r1 : p % d < d := Int.emod_lt_of_pos _ hd0
    have R := rounded_any (p / d) (p % d) d mode bl r0 (by omega) q0 hm
    have HR : Hid _ := R
    clear R
    go_wp2_with (go_at_call 149; refine (sign_any _ _).mono ?_; rintro e w' ⟨rfl, rfl⟩)
    refine (HR.out _).mono ?_
    rintro e w4 ⟨rfl, rfl⟩
    go_wp2
    go_ret2
    exact ⟨rfl, (h1.alloc _).trans h3⟩

theorem mulDiv_any (a b c mode : Int) (w : World) :
    Calls Tryz.prog 124 #[.int .i64 a, .int .i64 b, .int .i64 c, .int .i64 mode] w fun e w' =>
      e = .returned (.tuple #[.int .i64 (mdN a b c mode), .bool (mdB a b c mode)]) ∧ Bl w w' := by
  unfold mdN mdB mdG
  cases ha : rightB a
  · go_enter Tryz.func124, Tryz.ntmps124
    go_wp2_with (first
      | (go_at_call 145; refine (right_any _ _).mono ?_; rintro e w' ⟨rfl, rfl⟩)
      | (go_at_call 146; refine (isMode_any _ _).mono ?_; rintro e w' ⟨rfl, rfl⟩))
    go_ret2
    exact ⟨rfl, Bl.refl _⟩
  cases hb : rightB b
  · go_enter Tryz.func124, Tryz.ntmps124
    go_wp2_with (first
      | (go_at_call 145; refine (right_any _ _).mono ?_; rintro e w' ⟨rfl, rfl⟩)
      | (go_at_call 146; refine (isMode_any _ _).mono ?_; rintro e w' ⟨rfl, rfl⟩))
    go_ret2
    exact ⟨rfl, Bl.refl _⟩
  cases hc : rightB c
  · go_enter Tryz.func124, Tryz.ntmps124
    go_wp2_with (first
      | (go_at_call 145; refine (right_any _ _).mono ?_; rintro e w' ⟨rfl, rfl⟩)
      | (go_at_call 146; refine (isMode_any _ _).mono ?_; rintro e w' ⟨rfl, rfl⟩))
    go_ret2
    exact ⟨rfl, Bl.refl _⟩
  cases hz : (c == 0)
  case true =>
    go_enter Tryz.func124, Tryz.ntmps124
    go_wp2_with (first
      | (go_at_call 145; refine (right_any _ _).mono ?_; rintro e w' ⟨rfl, rfl⟩)
      | (go_at_call 146; refine (isMode_any _ _).mono ?_; rintro e w' ⟨rfl, rfl⟩))
    go_ret2
    exact ⟨rfl, Bl.refl _⟩
  case false =>
    cases hm : modeB mode
    case false =>
      go_enter Tryz.func124, Tryz.ntmps124
      go_wp2_with (first
        | (go_at_call 145; refine (right_any _ _).mono ?_; rintro e w' ⟨rfl, rfl⟩)
        | (go_at_call 146; refine (isMode_any _ _).mono ?_; rintro e w' ⟨rfl, rfl⟩))
      go_ret2
      exact ⟨rfl, Bl.refl _⟩
    case true => exact mulDiv_good a b c mode ha hb hc hz hm w
end Go.Proofs.YtljmggemdkfbiaaGreat

/- Contracts of fx.Right, fx.told, and of the document's Right and Told (layer 2). -/
namespace Go.Proofs.YtljmggemdkfbiaaGreat
open Go.RowKit
set_option linter.unusedSimpArgs false
set_option linter.unusedVariables false

/-- May the number of units be (P2.1)? -/
def frB (n : Int) : Bool := decide (-1125899906842624 ≤ n) && decide (n ≤ 1125899906842624)
theorem frB_iff {n : Int} : frB n = true ↔ -1125899906842624 ≤ n ∧ n ≤ 1125899906842624 := by simp [frB]
/-- A number, where it is told. -/
def toN (x : Int) (ok : Bool) : Int := if ok then x else 0
theorem toN_t (x : Int) : toN x true = x := rfl
theorem toN_f (x : Int) : toN x false = 0 := rfl
theorem fright_any (n : Int) (w : World) :
    Calls Tryz.prog 63 #[.int .i64 n] w fun e w' => e = .returned (.bool (frB n)) ∧ w' = w := by
  unfold frB
  by_cases h : -1125899906842624 ≤ n
  · by_cases h2 : n ≤ 1125899906842624
    · go_enter Tryz.func63, Tryz.ntmps63
      go_wp2
      go_ret
      exact ⟨by simp [h, h2], rfl⟩
    · go_enter Tryz.func63, Tryz.ntmps63
      go_wp2
      go_ret
      exact ⟨by simp [h, h2], rfl⟩
  · go_enter Tryz.func63, Tryz.ntmps63
    go_wp2
    go_ret
    exact ⟨by simp; omega, rfl⟩

/-- What a number came of: all of it may be. -/
def allB (xs : List Int) : Bool := xs.all frB
theorem allB_take (xs : List Int) (k : Nat) (h : k < xs.length) (ht : allB (xs.take k) = true) : allB (xs.take (k + 1)) = frB (xs.getD k 0) := by
  rw [List.take_succ_eq_append_getElem h]
  unfold allB at ht ⊢
  rw [List.all_append, ht]
  simp [List.getD_eq_getElem?_getD, h]
theorem allB_false (xs : List Int) (k : Nat) (h : k < xs.length) (hf : frB (xs.getD k 0) = false) : allB xs = false := by
  unfold allB
  rw [Bool.eq_false_iff, ne_eq, List.all_eq_true]
  intro hall
  have := hall (xs[k]) (List.getElem_mem h)
  rw [List.getD_eq_getElem?_getD, List.getElem?_eq_getElem h] at hf
  simp [this] at hf

theorem told_no (n : Int) (is : Bool) (h : (is && frB n) = false) (v : Value) (w : World) :
    Calls Tryz.prog 125 #[.int .i64 n, .bool is, v] w fun e w' => e = .returned (.tuple #[.int .i64 0, .bool false]) ∧ w' = w := by
  cases is
  · clear h
    go_enter Tryz.func125, Tryz.ntmps125
    go_wp2_with (go_at_call 63; refine (fright_any _ _).mono ?_; rintro e w' ⟨rfl, rfl⟩)
    go_ret2
    exact ⟨rfl, rfl⟩
  · have hf : frB n = false := by simpa using h
    clear h
    go_enter Tryz.func125, Tryz.ntmps125
    go_wp2_with (go_at_call 63; refine (fright_any _ _).mono ?_; rintro e w' ⟨rfl, rfl⟩)
    go_ret2
    exact ⟨rfl, rfl⟩

theorem told_nil (n : Int) (is : Bool) (w : World) :
    Calls Tryz.prog 125 #[.int .i64 n, .bool is, .slice none 0 0] w fun e w' => e = .returned (.tuple #[.int .i64 (toN n (is && frB n)), .bool (is && frB n)]) ∧ w' = w := by
  cases h : (is && frB n)
  · exact told_no n is h _ w
  · rw [Bool.and_eq_true] at h
    obtain ⟨rfl, hf⟩ := h
    go_enter Tryz.func125, Tryz.ntmps125
    go_wp2_with (go_at_call 63; refine (fright_any _ _).mono ?_; rintro e w' ⟨rfl, rfl⟩)
    go_loop [19] (fun i => i = .int .i64 0) (fun i => 0)
    case atStart => rfl
    case round =>
      subst hrel
      go_wp2
      go_ret2
      exact ⟨rfl, rfl⟩

theorem told_any (n : Int) (is : Bool) (b o : Nat) (xs : List Int) (w : World) (hl : xs.length ≤ 8)
    (hc : ∀ k, k < xs.length → w.cell? ⟨b, o + k, none⟩ = some (.int .i64 (xs.getD k 0))) :
    Calls Tryz.prog 125 #[.int .i64 n, .bool is, .slice (some ⟨b, o, none⟩) xs.length xs.length] w fun e w' =>
      e = .returned (.tuple #[.int .i64 (toN n (is && frB n && allB xs)), .bool (is && frB n && allB xs)]) ∧ w' = w := by
  cases h : (is && frB n)
  · exact told_no n is h _ w
  · rw [Bool.and_eq_true] at h
    obtain ⟨rfl, hf⟩ := h
    go_enter Tryz.func125, Tryz.ntmps125
    go_wp2_with (go_at_call 63; refine (fright_any _ _).mono ?_; rintro e w' ⟨rfl, rfl⟩)
    go_loop [19] (fun i => ∃ k : Nat, k ≤ xs.length ∧ i = .int .i64 k ∧ allB (xs.take k) = true) (fun i => xs.length - (intOf i).toNat)
    case atStart => exact ⟨0, by omega, rfl, rfl⟩
    case round =>
      obtain ⟨k, hk, rfl, ha⟩ := hrel
      by_cases hlt : k < xs.length
      · have hck := hc k hlt
        have hs := allB_take xs k hlt ha
        have hno := allB_false xs k hlt
        generalize xs.getD k 0 = x at *
        have HS := hideP hs
        have HN := hideP hno
        clear hs hno ha hc
        cases hx : frB x
        · go_wp2_with (go_at_call 63; refine (fright_any _ _).mono ?_; rintro e w' ⟨rfl, rfl⟩)
          go_ret2
          exact ⟨by rw [HN.out hx]; rfl, rfl⟩
        · go_wp2_with (go_at_call 63; refine (fright_any _ _).mono ?_; rintro e w' ⟨rfl, rfl⟩)
          go_round
          case rel => exact ⟨k + 1, by omega, by go_num, by rw [HS.out]; exact hx⟩
          case measure => simp [intOf]; omega
      · have HA := hideP ha
        clear ha hc
        go_wp2
        go_ret2
        have e : xs.take k = xs := List.take_of_length_le (by omega)
        refine ⟨?_, rfl⟩
        have := HA.out
        rw [e] at this
        rw [this]; rfl
end Go.Proofs.YtljmggemdkfbiaaGreat

/- awake; the walks of WideSquares, WideBack, WideSigns, WideModes. -/
namespace Go.Proofs.YtljmggemdkfbiaaGreat
open Go.RowKit
set_option linter.unusedSimpArgs false
set_option linter.unusedVariables false

theorem outB_zero (r g : Int) (b : Bool) (m : Int) (h : 0 < g) : outB r 0 g b m = false := by
  unfold outB
  split
  · simp
  · split
    · simp
    · rw [decide_eq_false (by omega : ¬ g < 2 * 0), decide_eq_false (by omega : ¬ 2 * 0 = g)]; rfl
theorem md_exact (a b c n m : Int) (ha : rightB a = true) (hb : rightB b = true) (hc : rightB c = true) (hn : rightB n = true) (hz : c ≠ 0) (hm : modeB m = true) (h : a * b = n * c) :
    mdN a b c m = n ∧ mdB a b c m = true := by
  have hg : mdG a b c m = true := by unfold mdG; rw [ha, hb, hc, hm]; simp [hz]
  have hd0 : 0 < szI c := by unfold szI; split <;> omega
  have hsn := szI_right hn
  have e : szI a * szI b = szI n * szI c := by rw [szI_mul, szI_mul, h]
  have hC : mdC a b c m = szI n := by
    unfold mdC
    rw [e, Int.mul_ediv_cancel _ (by omega), Int.mul_emod_left, outB_zero _ _ _ _ hd0]
    rfl
  have hbl : belB a b c = decide (n < 0) := by
    unfold belB
    rw [h, Int.mul_assoc]
    have hcc : 0 < c * c := by
      rcases Int.lt_or_gt_of_ne hz with k | k
      · exact Int.mul_pos_of_neg_of_neg k k
      · exact Int.mul_pos k k
    rcases (by omega : n < 0 ∨ n = 0 ∨ 0 < n) with k | k | k
    · have := Int.mul_neg_of_neg_of_pos k hcc; simp [k, this]
    · subst k; simp
    · have := Int.mul_pos k hcc
      rw [decide_eq_false (by omega), decide_eq_false (by omega)]
  unfold mdN mdB
  rw [hg, hC, hbl]
  constructor
  · rw [if_pos rfl]; unfold rdN; rw [if_neg (by omega)]
    unfold szI
    by_cases k : n < 0 <;> simp [k]
  · unfold rdB; simp; omega
theorem md_bad (a b c m : Int) (h : mdG a b c m = false) : mdN a b c m = 0 ∧ mdB a b c m = false := by
  unfold mdN mdB; rw [h]; exact ⟨rfl, rfl⟩
theorem mdG_bad {a b c m : Int} (h : rightB a = false ∨ rightB b = false ∨ rightB c = false) : mdG a b c m = false := by
  unfold mdG; rcases h with h | h | h <;> rw [h] <;> simp
end Go.Proofs.YtljmggemdkfbiaaGreat

/- The contract of the document's MulDiv. -/
namespace Go.Proofs.YtljmggemdkfbiaaGreat
open Go.RowKit
set_option linter.unusedSimpArgs false
set_option linter.unusedVariables false

theorem div_le_self {N D : Int} (h0 : 0 ≤ N) (hD : 0 < D) : 0 ≤ N / D ∧ N / D ≤ N := ⟨Int.ediv_nonneg h0 (by omega), Int.ediv_le_self _ h0⟩

end Go.Proofs.YtljmggemdkfbiaaGreat

/- The walk of WideDivides. -/
namespace Go.Proofs.YtljmggemdkfbiaaGreat
open Go.RowKit
set_option linter.unusedSimpArgs false
set_option linter.unusedVariables false

end Go.Proofs.YtljmggemdkfbiaaGreat

/- The contract of the document's Root. -/
namespace Go.Proofs.YtljmggemdkfbiaaGreat
open Go.RowKit
set_option linter.unusedSimpArgs false
set_option linter.unusedVariables false

end Go.Proofs.YtljmggemdkfbiaaGreat

/- Contracts of fx.Of, Add, Sub, Mul, Div, Root, and of the document's Mul, Div, Root (layer 2). -/
namespace Go.Proofs.YtljmggemdkfbiaaGreat
open Go.RowKit
set_option linter.unusedSimpArgs false
set_option linter.unusedVariables false

theorem allB2 (a b : Int) : allB [a, b] = (frB a && frB b) := by simp [allB]
/-- Is a product told (P2.1), and which is it? -/
def fmB (a b m : Int) : Bool := mdB a b 16777216 m && frB (mdN a b 16777216 m) && allB [a, b]
def fmN (a b m : Int) : Int := toN (mdN a b 16777216 m) (fmB a b m)
/-- A quotient. -/
def fdB (a b m : Int) : Bool := mdB a 16777216 b m && frB (mdN a 16777216 b m) && allB [a, b]
def fdN (a b m : Int) : Int := toN (mdN a 16777216 b m) (fdB a b m)
/-- A root. -/
def fqB (a m : Int) : Bool := rtB a 16777216 m && frB (rtN a 16777216 m) && allB [a]
def fqN (a m : Int) : Int := toN (rtN a 16777216 m) (fqB a m)
/-- A sum, a difference. -/
def faB (a b : Int) : Bool := frB (a + b) && allB [a, b]
def faN (a b : Int) : Int := toN (a + b) (faB a b)
def fsB (a b : Int) : Bool := frB (a - b) && allB [a, b]
def fsN (a b : Int) : Int := toN (a - b) (fsB a b)

theorem two_cells (w : World) (a b : Int) (t : TypeId) : ∀ k, k < [a, b].length → (w.alloc (.cells #[.int .i64 a, .int .i64 b] t)).cell? ⟨w.heap.size, 0 + k, none⟩ = some (.int .i64 ([a, b].getD k 0)) := by
  intro k hk
  rcases (by simp at hk; omega : k = 0 ∨ k = 1) with rfl | rfl <;> simp [go_sem]
theorem one_cell (w : World) (a : Int) (t : TypeId) : ∀ k, k < [a].length → (w.alloc (.cells #[.int .i64 a] t)).cell? ⟨w.heap.size, 0 + k, none⟩ = some (.int .i64 ([a].getD k 0)) := by
  intro k hk
  obtain rfl : k = 0 := by simp at hk; omega
  simp [go_sem]

theorem fmul_any (a b m : Int) (w : World) :
    Calls Tryz.prog 215 #[.int .i64 a, .int .i64 b, .int .i64 m] w fun e w' => e = .returned (.tuple #[.int .i64 (fmN a b m), .bool (fmB a b m)]) ∧ Bl w w' := by
  unfold fmN fmB
  have M := mulDiv_any a b 16777216 m
  generalize mdN a b 16777216 m = x at *
  generalize mdB a b 16777216 m = xb at *
  have HM := hideP M
  clear M
  go_enter Tryz.func215, Tryz.ntmps215
  go_wp2_with fail
  refine (HM.out _).mono ?_
  rintro e w1 ⟨rfl, h1⟩
  go_wp2_with fail
  refine (told_any x xb _ 0 [a, b] _ (by simp) (two_cells _ _ _ _)).mono ?_
  rintro e w2 ⟨rfl, rfl⟩
  go_wp2
  go_ret2
  exact ⟨rfl, h1.alloc _⟩

theorem fdiv_any (a b m : Int) (w : World) :
    Calls Tryz.prog 213 #[.int .i64 a, .int .i64 b, .int .i64 m] w fun e w' => e = .returned (.tuple #[.int .i64 (fdN a b m), .bool (fdB a b m)]) ∧ Bl w w' := by
  unfold fdN fdB
  have M := mulDiv_any a 16777216 b m
  generalize mdN a 16777216 b m = x at *
  generalize mdB a 16777216 b m = xb at *
  have HM := hideP M
  clear M
  go_enter Tryz.func213, Tryz.ntmps213
  go_wp2_with fail
  refine (HM.out _).mono ?_
  rintro e w1 ⟨rfl, h1⟩
  go_wp2_with fail
  refine (told_any x xb _ 0 [a, b] _ (by simp) (two_cells _ _ _ _)).mono ?_
  rintro e w2 ⟨rfl, rfl⟩
  go_wp2
  go_ret2
  exact ⟨rfl, h1.alloc _⟩

theorem froot_any (a m : Int) (w : World) :
    Calls Tryz.prog 217 #[.int .i64 a, .int .i64 m] w fun e w' => e = .returned (.tuple #[.int .i64 (fqN a m), .bool (fqB a m)]) ∧ Bl w w' := by
  unfold fqN fqB
  have M := root_any a 16777216 m
  generalize rtN a 16777216 m = x at *
  generalize rtB a 16777216 m = xb at *
  have HM := hideP M
  clear M
  go_enter Tryz.func217, Tryz.ntmps217
  go_wp2_with fail
  refine (HM.out _).mono ?_
  rintro e w1 ⟨rfl, h1⟩
  go_wp2_with fail
  refine (told_any x xb _ 0 [a] _ (by simp) (one_cell _ _ _)).mono ?_
  rintro e w2 ⟨rfl, rfl⟩
  go_wp2
  go_ret2
  exact ⟨rfl, h1.alloc _⟩

theorem tup_eq {a b : Int} {p q : Bool} (h : a = b) (k : p = q) : Ending.returned (.tuple #[.int .i64 a, .bool p]) = .returned (.tuple #[.int .i64 b, .bool q]) := by rw [h, k]
theorem wsum (a b x y : Int) (hx : x = wrap64 y) (hy : frB a = true → frB b = true → -9223372036854775808 ≤ y ∧ y ≤ 9223372036854775807) : (frB x && allB [a, b]) = (frB y && allB [a, b]) ∧ toN x (frB x && allB [a, b]) = toN y (frB y && allB [a, b]) := by
  rw [allB2]
  cases ha : frB a
  · simp [toN]
  · cases hb : frB b
    · simp [toN]
    · obtain rfl : x = y := by rw [hx]; exact IntWalk.wrap64_in _ (by have := hy ha hb; omega)
      exact ⟨rfl, rfl⟩

theorem fadd_any (a b : Int) (w : World) :
    Calls Tryz.prog 210 #[.int .i64 a, .int .i64 b] w fun e w' => e = .returned (.tuple #[.int .i64 (faN a b), .bool (faB a b)]) ∧ Bl w w' := by
  have e := wsum a b (wrap64 (a + b)) (a + b) rfl (fun ha hb => by have := frB_iff.1 ha; have := frB_iff.1 hb; omega)
  unfold faN faB
  have HE := hideP e
  clear e
  go_enter Tryz.func210, Tryz.ntmps210
  go_wp2_with fail
  refine (told_any _ true _ 0 [a, b] _ (by simp) (two_cells _ _ _ _)).mono ?_
  rintro e w2 ⟨rfl, rfl⟩
  go_wp2
  go_ret2
  exact ⟨tup_eq HE.out.2 HE.out.1, (Bl.refl _).alloc _⟩

theorem fsub_any (a b : Int) (w : World) :
    Calls Tryz.prog 219 #[.int .i64 a, .int .i64 b] w fun e w' => e = .returned (.tuple #[.int .i64 (fsN a b), .bool (fsB a b)]) ∧ Bl w w' := by
  have e := wsum a b (wrap64 (a - b)) (a - b) rfl (fun ha hb => by have := frB_iff.1 ha; have := frB_iff.1 hb; omega)
  unfold fsN fsB
  have HE := hideP e
  clear e
  go_enter Tryz.func219, Tryz.ntmps219
  go_wp2_with fail
  refine (told_any _ true _ 0 [a, b] _ (by simp) (two_cells _ _ _ _)).mono ?_
  rintro e w2 ⟨rfl, rfl⟩
  go_wp2
  go_ret2
  exact ⟨tup_eq HE.out.2 HE.out.1, (Bl.refl _).alloc _⟩

/-- Is a whole number told? -/
def foB (n : Int) : Bool := decide (-67108864 ≤ n) && decide (n ≤ 67108864)
def foN (n : Int) : Int := toN (n * 16777216) (foB n)
theorem of_val (n : Int) : (mdB n 16777216 1 1 && frB (mdN n 16777216 1 1)) = foB n ∧ toN (mdN n 16777216 1 1) (mdB n 16777216 1 1 && frB (mdN n 16777216 1 1)) = foN n := by
  cases hr : rightB n
  · have x := md_bad n 16777216 1 1 (mdG_bad (.inl hr))
    rw [x.1, x.2]
    have hf : foB n = false := by
      cases h : foB n
      · rfl
      · have : -67108864 ≤ n ∧ n ≤ 67108864 := by simpa [foB] using h
        rw [rightB_eq (by omega)] at hr; cases hr
    unfold foN
    rw [hf]
    exact ⟨rfl, rfl⟩
  · by_cases hp : rightB (n * 16777216) = true
    · have x := md_exact n 16777216 1 (n * 16777216) 1 hr (by decide) (by decide) hp (by decide) (by decide) (by omega)
      rw [x.1, x.2, Bool.true_and]
      have : frB (n * 16777216) = foB n := by
        unfold frB foB
        rw [Bool.eq_iff_iff]; simp; omega
      unfold foN
      rw [this]
      exact ⟨rfl, rfl⟩
    · have hnr := rightB_iff.1 hr
      have hf : foB n = false := by
        cases h : foB n
        · rfl
        · have : -67108864 ≤ n ∧ n ≤ 67108864 := by simpa [foB] using h
          exact absurd (rightB_eq (by omega)) hp
      have hb : mdB n 16777216 1 1 = false := by
        have hbig : ¬ szI n * 16777216 ≤ 4611686018427387903 := by
          intro h
          apply hp
          apply rightB_eq
          unfold szI at h
          split at h <;> omega
        unfold mdB mdC
        have e1 : szI 16777216 = 16777216 := rfl
        have e2 : szI 1 = 1 := rfl
        have hz := outB_zero (szI n * 16777216) 1 (belB n 16777216 1) 1 (by omega)
        rw [e1, e2, Int.ediv_one, Int.emod_one, hz]
        have : rdB (upI (szI n * 16777216) false) = false := by
          unfold rdB upI
          simp
          omega
        rw [this, Bool.and_false]
      unfold foN
      rw [hb, hf]
      exact ⟨rfl, rfl⟩

theorem fof_any (n : Int) (w : World) :
    Calls Tryz.prog 79 #[.int .i64 n] w fun e w' => e = .returned (.tuple #[.int .i64 (foN n), .bool (foB n)]) ∧ Bl w w' := by
  have e := of_val n
  have M := mulDiv_any n 16777216 1 1
  generalize mdN n 16777216 1 1 = x at *
  generalize mdB n 16777216 1 1 = xb at *
  rw [← e.1, ← e.2]
  have HM := hideP M
  clear M e
  go_enter Tryz.func79, Tryz.ntmps79
  go_wp2_with fail
  refine (HM.out _).mono ?_
  rintro e w1 ⟨rfl, h1⟩
  go_wp2_with fail
  refine (told_nil x xb _).mono ?_
  rintro e w2 ⟨rfl, rfl⟩
  go_wp2
  go_ret2
  exact ⟨rfl, h1⟩

end Go.Proofs.YtljmggemdkfbiaaGreat

/- The walks of WideRoots, WideNearest. -/
namespace Go.Proofs.YtljmggemdkfbiaaGreat
open Go.RowKit
set_option linter.unusedSimpArgs false
set_option linter.unusedVariables false

end Go.Proofs.YtljmggemdkfbiaaGreat

/- The walks of WideSigns, WideModes. -/
namespace Go.Proofs.YtljmggemdkfbiaaGreat
open Go.RowKit
set_option linter.unusedSimpArgs false
set_option linter.unusedVariables false

end Go.Proofs.YtljmggemdkfbiaaGreat

/- The walk of WideModes. -/
namespace Go.Proofs.YtljmggemdkfbiaaGreat
open Go.RowKit
set_option linter.unusedSimpArgs false
set_option linter.unusedVariables false

end Go.Proofs.YtljmggemdkfbiaaGreat

/- What a product, divided, and rounded, is, by the number itself (a divisor above 0). -/
namespace Go.Proofs.YtljmggemdkfbiaaGreat
open Go.RowKit
set_option linter.unusedSimpArgs false
set_option linter.unusedVariables false

end Go.Proofs.YtljmggemdkfbiaaGreat

/- What fx tells (layer 2), by the numbers themselves: orders, bounds, roots. -/
namespace Go.Proofs.YtljmggemdkfbiaaGreat
open Go.RowKit
set_option linter.unusedSimpArgs false
set_option linter.unusedVariables false

end Go.Proofs.YtljmggemdkfbiaaGreat

/- Enclosed numbers (layer 3): what is told of them, by the numbers themselves. -/
namespace Go.Proofs.YtljmggemdkfbiaaGreat
open Go.RowKit
set_option linter.unusedSimpArgs false
set_option linter.unusedVariables false

/-- A number of mode. -/
def MD (m : Int) : Prop := m = 0 ∨ m = 1 ∨ m = 2
theorem MD.b {m : Int} (h : MD m) : modeB m = true := by rcases h with rfl | rfl | rfl <;> rfl
/-- An enclosed number: its value, its bounds, and whether it is Bad. -/
structure En where
  v : Int
  l : Int
  h : Int
  bad : Bool
def wrongE : En := ⟨0, 0, 0, true⟩
def ptE (n : Int) : Bool → En
  | true => ⟨n, n, n, false⟩
  | false => wrongE
def fineB (a : En) : Bool := !a.bad && decide (a.l ≤ a.v) && decide (a.v ≤ a.h) && frB a.l && frB a.h
theorem fineB_iff {a : En} : fineB a = true ↔ a.bad = false ∧ a.l ≤ a.v ∧ a.v ≤ a.h ∧ frB a.l = true ∧ frB a.h = true := by
  unfold fineB; simp [Bool.and_eq_true, and_assoc]
/-- The least, and the greatest, of what is told of pairs of bounds; and whether all of it is told. -/
def lowF (N : Int → Int → Int → Int) (ps : List (Int × Int)) : Int := ps.foldl (fun x p => min x (N p.1 p.2 1)) 1125899906842624
def highF (N : Int → Int → Int → Int) (ps : List (Int × Int)) : Int := ps.foldl (fun x p => max x (N p.1 p.2 2)) (-1125899906842624)
def okF (B : Int → Int → Int → Bool) (ps : List (Int × Int)) : Bool := ps.all fun p => B p.1 p.2 1 && B p.1 p.2 2
/-- What comes of a and b. -/
def okE (B : Int → Int → Int → Bool) (a b : En) (ps : List (Int × Int)) : Bool := B a.v b.v 0 && fineB a && fineB b && okF B ps
def toldE (N : Int → Int → Int → Int) (B : Int → Int → Int → Bool) (a b : En) (ps : List (Int × Int)) : En :=
  if okE B a b ps then ⟨N a.v b.v 0, lowF N ps, highF N ps, false⟩ else wrongE
def prs2 (a b : En) : List (Int × Int) := [(a.l, b.l), (a.h, b.h)]
def prsX (a b : En) : List (Int × Int) := [(a.l, b.h), (a.h, b.l)]
def prs4 (a b : En) : List (Int × Int) := [(a.l, b.l), (a.l, b.h), (a.h, b.l), (a.h, b.h)]
def nA (a b _m : Int) : Int := faN a b
def bA (a b _m : Int) : Bool := faB a b
def nS (a b _m : Int) : Int := fsN a b
def bS (a b _m : Int) : Bool := fsB a b
def nQ (a _b m : Int) : Int := fqN a m
def bQ (a _b m : Int) : Bool := fqB a m
def addE (a b : En) : En := toldE nA bA a b (prs2 a b)
def subE (a b : En) : En := toldE nS bS a b (prsX a b)
def mulE (a b : En) : En := toldE fmN fmB a b (prs4 a b)
/-- Does it enclose 0? -/
def zeroB (b : En) : Bool := decide (b.l ≤ 0) && decide (0 ≤ b.h)
def divE (a b : En) : En := if zeroB b then wrongE else toldE fdN fdB a b (prs4 a b)
def rootE (a : En) : En := toldE nQ bQ a a (prs2 a a)

/-- What is told is a number that may be. -/
def Bd (N : Int → Int → Int → Int) : Prop := ∀ a b m, -1125899906842624 ≤ N a b m ∧ N a b m ≤ 1125899906842624
end Go.Proofs.YtljmggemdkfbiaaGreat

/- Contracts of env.Wrong, point, Point, Of, Fine, Sign, Meet (layer 3), and of the document's Fine. -/
namespace Go.Proofs.YtljmggemdkfbiaaGreat
open Go.RowKit
set_option linter.unusedSimpArgs false
set_option linter.unusedVariables false

/-- An enclosed number, as the program has it. -/
abbrev enV (x : En) : Value := .agg #[.int .i64 x.v, .int .i64 x.l, .int .i64 x.h, .bool x.bad]

theorem wrong_any (w : World) :
    Calls Tryz.prog 110 #[] w fun e w' => e = .returned (enV wrongE) ∧ Bl w w' := by
  go_enter Tryz.func110, Tryz.ntmps110
  go_wp2
  simp [bodyPost, results, Tryz.results110, go_sem, wrongE]
  exact (Bl.refl _).alloc _

/-- A block of four cells that holds an enclosed number. -/
structure Box (w : World) (b : Nat) (x : En) : Prop where
  c0 : w.cell? ⟨b, 0, none⟩ = some (.int .i64 x.v)
  c1 : w.cell? ⟨b, 1, none⟩ = some (.int .i64 x.l)
  c2 : w.cell? ⟨b, 2, none⟩ = some (.int .i64 x.h)
  c3 : w.cell? ⟨b, 3, none⟩ = some (.bool x.bad)
  f0 : w.frozen? ⟨b, 0, none⟩ = false
  f1 : w.frozen? ⟨b, 1, none⟩ = false
  f2 : w.frozen? ⟨b, 2, none⟩ = false
  f3 : w.frozen? ⟨b, 3, none⟩ = false
  lt : b < w.heap.size
theorem Box.later {w w' : World} {b : Nat} {x : En} (h : Box w b x) (k : Bl w w') : Box w' b x := by
  have := h.lt
  refine ⟨?_, ?_, ?_, ?_, ?_, ?_, ?_, ?_, by have := Below.size k; omega⟩
  · rw [bl_cell k _ _ this]; exact h.c0
  · rw [bl_cell k _ _ this]; exact h.c1
  · rw [bl_cell k _ _ this]; exact h.c2
  · rw [bl_cell k _ _ this]; exact h.c3
  · rw [bl_froz k _ _ this]; exact h.f0
  · rw [bl_froz k _ _ this]; exact h.f1
  · rw [bl_froz k _ _ this]; exact h.f2
  · rw [bl_froz k _ _ this]; exact h.f3
theorem Box.new (w : World) (x : En) (t : TypeId) : Box (w.alloc (.cells #[.int .i64 x.v, .int .i64 x.l, .int .i64 x.h, .bool x.bad] t)) w.heap.size x := by
  refine ⟨?_, ?_, ?_, ?_, ?_, ?_, ?_, ?_, by simp⟩ <;> simp [go_sem]
theorem Bl.set4 {a b : World} (h : Bl a b) {n : Nat} (hn : a.heap.size ≤ n) (v0 v1 v2 v3 : Value) : Bl a ((((b.setCell ⟨n, 0, none⟩ v0).setCell ⟨n, 1, none⟩ v1).setCell ⟨n, 2, none⟩ v2).setCell ⟨n, 3, none⟩ v3) :=
  Bl.set (Bl.set (Bl.set (Bl.set h hn _) hn _) hn _) hn _
/-- One that is laid, and not yet filled. -/
def zeroE : En := ⟨0, 0, 0, false⟩

theorem point_any (n : Int) (is : Bool) (w : World) :
    Calls Tryz.prog 62 #[.int .i64 n, .bool is] w fun e w' => e = .returned (enV (ptE n is)) ∧ Bl w w' := by
  cases is
  · obtain ⟨W, hW⟩ : ∃ W, W = w.alloc (.cells #[.int .i64 0, .int .i64 0, .int .i64 0, .bool false] 52) := ⟨_, rfl⟩
    have b0 : Bl w W := by rw [hW]; exact (Bl.refl _).alloc _
    have x0 : Box W w.heap.size zeroE := by rw [hW]; exact Box.new w zeroE _
    have HW := hideP hW
    clear hW
    go_enter Tryz.func62, Tryz.ntmps62
    go_wp2_with fail
    rw [← HW.out]
    refine (wrong_any _).mono ?_
    rintro e w1 ⟨rfl, h1⟩
    obtain ⟨c0, c1, c2, c3, f0, f1, f2, f3, lt⟩ := x0.later h1
    go_wp2
    simp [bodyPost, results, Tryz.results62, go_sem, c0, c1, c2, c3, ptE]
    exact Bl.set (Bl.set (Bl.set (Bl.set (b0.trans h1) (Nat.le_refl _) _) (Nat.le_refl _) _) (Nat.le_refl _) _) (Nat.le_refl _) _
  · go_enter Tryz.func62, Tryz.ntmps62
    go_wp2
    simp [bodyPost, results, Tryz.results62, go_sem, ptE]
    exact (Bl.refl _).alloc _

theorem fine_any (a : En) (w : World) :
    Calls Tryz.prog 82 #[enV a] w fun e w' => e = .returned (.bool (fineB a)) ∧ Bl w w' := by
  obtain ⟨v, l, h, bd⟩ := a
  unfold fineB
  simp only
  cases bd
  · by_cases h1 : l ≤ v
    · by_cases h2 : v ≤ h
      · rw [decide_eq_true h1, decide_eq_true h2]
        cases h3 : frB l
        · go_enter Tryz.func82, Tryz.ntmps82
          go_wp2_with (go_at_call 63; refine (fright_any _ _).mono ?_; rintro e w' ⟨rfl, rfl⟩)
          go_ret
          exact ⟨rfl, (Bl.refl _).alloc _⟩
        · go_enter Tryz.func82, Tryz.ntmps82
          go_wp2_with (go_at_call 63; refine (fright_any _ _).mono ?_; rintro e w' ⟨rfl, rfl⟩)
          go_ret
          exact ⟨rfl, (Bl.refl _).alloc _⟩
      · rw [decide_eq_false h2]
        go_enter Tryz.func82, Tryz.ntmps82
        go_wp2
        go_ret
        exact ⟨by simp, (Bl.refl _).alloc _⟩
    · rw [decide_eq_false h1]
      go_enter Tryz.func82, Tryz.ntmps82
      go_wp2
      go_ret
      exact ⟨by simp, (Bl.refl _).alloc _⟩
  · go_enter Tryz.func82, Tryz.ntmps82
    go_wp2
    go_ret
    exact ⟨by simp, (Bl.refl _).alloc _⟩

theorem pointE_any (n : Int) (w : World) :
    Calls Tryz.prog 24 #[.int .i64 n] w fun e w' => e = .returned (enV (ptE n (frB n))) ∧ Bl w w' := by
  obtain ⟨W, hW⟩ : ∃ W, W = w.alloc (.cells #[.int .i64 0, .int .i64 0, .int .i64 0, .bool false] 52) := ⟨_, rfl⟩
  have b0 : Bl w W := by rw [hW]; exact (Bl.refl _).alloc _
  have x0 : Box W w.heap.size zeroE := by rw [hW]; exact Box.new w zeroE _
  have HW := hideP hW
  clear hW
  go_enter Tryz.func24, Tryz.ntmps24
  go_wp2_with fail
  rw [← HW.out]
  refine (fright_any _ _).mono ?_
  rintro e w1 ⟨rfl, rfl⟩
  go_wp2_with fail
  refine (point_any _ _ _).mono ?_
  rintro e w1 ⟨rfl, h1⟩
  obtain ⟨c0, c1, c2, c3, f0, f1, f2, f3, lt⟩ := x0.later h1
  go_wp2
  simp [bodyPost, results, Tryz.results24, go_sem, c0, c1, c2, c3]
  exact Bl.set (Bl.set (Bl.set (Bl.set (b0.trans h1) (Nat.le_refl _) _) (Nat.le_refl _) _) (Nat.le_refl _) _) (Nat.le_refl _) _

theorem ofE_any (a : En) (n : Int) (w : World) :
    Calls Tryz.prog 37 #[enV a, .int .i64 n] w fun e w' => e = .returned (enV (ptE (foN n) (foB n))) ∧ Bl w w' := by
  obtain ⟨W, hW⟩ : ∃ W, W = (w.alloc (.cells #[.int .i64 a.v, .int .i64 a.l, .int .i64 a.h, .bool a.bad] 52)).alloc (.cells #[.int .i64 0, .int .i64 0, .int .i64 0, .bool false] 52) := ⟨_, rfl⟩
  have b0 : Bl w W := by rw [hW]; exact ((Bl.refl _).alloc _).alloc _
  have x0 : Box W (w.heap.size + 1) zeroE := by rw [hW]; have := Box.new (w.alloc (.cells #[.int .i64 a.v, .int .i64 a.l, .int .i64 a.h, .bool a.bad] 52)) zeroE 52; simpa [zeroE] using this
  have HW := hideP hW
  clear hW
  go_enter Tryz.func37, Tryz.ntmps37
  go_wp2_with fail
  rw [← HW.out]
  refine (fof_any _ _).mono ?_
  rintro e w1 ⟨rfl, h1⟩
  go_wp2_with fail
  refine (point_any _ _ _).mono ?_
  rintro e w2 ⟨rfl, h2⟩
  obtain ⟨c0, c1, c2, c3, f0, f1, f2, f3, lt⟩ := x0.later (h1.trans h2)
  go_wp2
  simp [bodyPost, results, Tryz.results37, go_sem, c0, c1, c2, c3]
  exact Bl.set (Bl.set (Bl.set (Bl.set ((b0.trans h1).trans h2) (by simp) _) (by simp) _) (by simp) _) (by simp) _

end Go.Proofs.YtljmggemdkfbiaaGreat

/- The contract of env.told (layer 3), for what is done of a pair, whatever it be. -/
namespace Go.Proofs.YtljmggemdkfbiaaGreat
open Go.RowKit
set_option linter.unusedSimpArgs false
set_option linter.unusedVariables false

abbrev prV (x y : Int) : Value := .agg #[.int .i64 x, .int .i64 y]
/-- The pairs of a slice, in a world. -/
def Prs (w : World) (blk : Nat) (ps : List (Int × Int)) : Prop :=
  blk < w.heap.size ∧ ∀ k, k < ps.length → w.cell? ⟨blk, k * 2, none⟩ = some (.int .i64 (ps.getD k (0, 0)).1) ∧ w.cell? ⟨blk, k * 2 + 1, none⟩ = some (.int .i64 (ps.getD k (0, 0)).2)
theorem Prs.later {w w' : World} {blk : Nat} {ps : List (Int × Int)} (h : Prs w blk ps) (k : Bl w w') : Prs w' blk ps := by
  refine ⟨by have := Below.size k; have := h.1; omega, fun j hj => ?_⟩
  rw [bl_cell k _ _ h.1, bl_cell k _ _ h.1]
  exact h.2 j hj
theorem take_getD (ps : List (Int × Int)) (k : Nat) (h : k < ps.length) : ps.take (k + 1) = ps.take k ++ [ps.getD k (0, 0)] := by
  rw [List.take_succ_eq_append_getElem h]
  simp [List.getD_eq_getElem?_getD, h]
theorem low_snoc (N : Int → Int → Int → Int) (ps : List (Int × Int)) (p : Int × Int) : lowF N (ps ++ [p]) = min (lowF N ps) (N p.1 p.2 1) := by
  unfold lowF; rw [List.foldl_append]; rfl
theorem high_snoc (N : Int → Int → Int → Int) (ps : List (Int × Int)) (p : Int × Int) : highF N (ps ++ [p]) = max (highF N ps) (N p.1 p.2 2) := by
  unfold highF; rw [List.foldl_append]; rfl
theorem ok_snoc (B : Int → Int → Int → Bool) (ps : List (Int × Int)) (p : Int × Int) : okF B (ps ++ [p]) = (okF B ps && (B p.1 p.2 1 && B p.1 p.2 2)) := by
  unfold okF; rw [List.all_append]; simp
theorem ok_no (B : Int → Int → Int → Bool) (ps : List (Int × Int)) (k : Nat) (h : k < ps.length) (hp : (B (ps.getD k (0, 0)).1 (ps.getD k (0, 0)).2 1 && B (ps.getD k (0, 0)).1 (ps.getD k (0, 0)).2 2) = false) : okF B ps = false := by
  unfold okF
  rw [Bool.eq_false_iff, ne_eq, List.all_eq_true]
  intro hall
  have := hall (ps[k]) (List.getElem_mem h)
  rw [List.getD_eq_getElem?_getD, List.getElem?_eq_getElem h] at hp
  simp [this] at hp

theorem told_bad {N : Int → Int → Int → Int} {B : Int → Int → Int → Bool} {a b : En} {ps : List (Int × Int)} (h : okE B a b ps = false) : toldE N B a b ps = wrongE := by
  unfold toldE; rw [h]; rfl
theorem told_ok {N : Int → Int → Int → Int} {B : Int → Int → Int → Bool} {a b : En} {ps : List (Int × Int)} (h : okE B a b ps = true) : toldE N B a b ps = ⟨N a.v b.v 0, lowF N ps, highF N ps, false⟩ := by
  unfold toldE; rw [h]; rfl

set_option maxHeartbeats 2000000 in
theorem toldE_any (K : Nat) (N : Int → Int → Int → Int) (B : Int → Int → Int → Bool) (a b : En) (ps : List (Int × Int)) (blk : Nat) (w : World)
    (eg : ∀ (args : Array Value) (w : World), (callFunc K args).run Tryz.prog w = .ok (.enter K args) w)
    (hf : ∀ x y m w', Calls Tryz.prog K #[prV x y, .int .i64 m] w' fun e w'' => e = .returned (.tuple #[.int .i64 (N x y m), .bool (B x y m)]) ∧ Bl w' w'')
    (hl : ps.length ≤ 4) (hp : Prs w blk ps) :
    Calls Tryz.prog 211 #[enV a, enV b, .func (.func K) #[] #[], .slice (some ⟨blk, 0, none⟩) ps.length ps.length] w fun e w' => e = .returned (enV (toldE N B a b ps)) ∧ Bl w w' := by
  obtain ⟨W, hW⟩ : ∃ W, W = ((w.alloc (.cells #[.int .i64 a.v, .int .i64 a.l, .int .i64 a.h, .bool a.bad] 52)).alloc (.cells #[.int .i64 b.v, .int .i64 b.l, .int .i64 b.h, .bool b.bad] 52)).alloc (.cells #[.int .i64 0, .int .i64 0, .int .i64 0, .bool false] 52) := ⟨_, rfl⟩
  have b0 : Bl w W := by rw [hW]; exact (((Bl.refl _).alloc _).alloc _).alloc _
  have xa : Box W w.heap.size a := by
    rw [hW]
    exact (Box.new w a 52).later (((Bl.refl _).alloc _).alloc _)
  have xb : Box W (w.heap.size + 1) b := by
    rw [hW]
    have := (Box.new (w.alloc (.cells #[.int .i64 a.v, .int .i64 a.l, .int .i64 a.h, .bool a.bad] 52)) b 52).later ((Bl.refl _).alloc (.cells #[.int .i64 0, .int .i64 0, .int .i64 0, .bool false] 52))
    simpa using this
  have xz : Box W (w.heap.size + 2) zeroE := by
    rw [hW]
    have := Box.new ((w.alloc (.cells #[.int .i64 a.v, .int .i64 a.l, .int .i64 a.h, .bool a.bad] 52)).alloc (.cells #[.int .i64 b.v, .int .i64 b.l, .int .i64 b.h, .bool b.bad] 52)) zeroE 52
    simpa [zeroE] using this
  have ca := xa.c0
  have cb := xb.c0
  have HW := hideP hW
  have HF := hideP hf
  have HP := hideP (hp.later b0)
  have XA := hideP xa
  have XB := hideP xb
  have XZ := hideP xz
  have HB0 := hideP b0
  clear hW hf hp xa xb xz b0
  have hbad : ∀ w1, Bl W w1 → okE B a b ps = false → True := fun _ _ _ => trivial
  clear hbad
  have FA := hideP (fine_any a)
  have FB := hideP (fine_any b)
  have TB : okE B a b ps = (B a.v b.v 0 && fineB a && fineB b && okF B ps) := rfl
  cases hv : B a.v b.v 0
  · have HT := hideP (told_bad (N := N) (show okE B a b ps = false by rw [TB, hv]; rfl))
    have F0 := HF.out a.v b.v 0
    rw [hv] at F0
    generalize N a.v b.v 0 = n at F0
    have HF0 := hideP F0
    clear F0 TB hv
    go_enter Tryz.func211, Tryz.ntmps211
    go_wp2_with fail
    rw [← HW.out]
    go_wp2_with fail
    refine (HF0.out _).mono ?_
    rintro e w1 ⟨rfl, h1⟩
    go_wp2_with fail
    refine (wrong_any _).mono ?_
    rintro e w2 ⟨rfl, h2⟩
    obtain ⟨c0, c1, c2, c3, f0, f1, f2, f3, lt⟩ := XZ.out.later (h1.trans h2)
    go_wp2
    rw [HT.out]
    simp [bodyPost, results, Tryz.results211, go_sem, c0, c1, c2, c3]
    exact Bl.set4 ((HB0.out.trans h1).trans h2) (by omega) _ _ _ _
  have F0 := HF.out a.v b.v 0
  rw [hv] at F0
  cases ha : fineB a
  · have HT := hideP (told_bad (N := N) (show okE B a b ps = false by rw [TB, ha]; simp))
    have A0 := FA.out
    rw [ha] at A0
    generalize N a.v b.v 0 = n at F0
    have HF0 := hideP F0
    have HA0 := hideP A0
    clear F0 A0 TB hv ha
    go_enter Tryz.func211, Tryz.ntmps211
    go_wp2_with fail
    rw [← HW.out]
    go_wp2_with fail
    refine (HF0.out _).mono ?_
    rintro e w1 ⟨rfl, h1⟩
    obtain ⟨a0, a1, a2, a3, _, _, _, _, _⟩ := XA.out.later h1
    go_wp2_with fail
    refine (HA0.out _).mono ?_
    rintro e w2 ⟨rfl, h2⟩
    go_wp2_with fail
    refine (wrong_any _).mono ?_
    rintro e w3 ⟨rfl, h3⟩
    obtain ⟨c0, c1, c2, c3, f0, f1, f2, f3, lt⟩ := XZ.out.later ((h1.trans h2).trans h3)
    go_wp2
    rw [HT.out]
    simp [bodyPost, results, Tryz.results211, go_sem, c0, c1, c2, c3]
    exact Bl.set4 (((HB0.out.trans h1).trans h2).trans h3) (by omega) _ _ _ _
  have A0 := FA.out
  rw [ha] at A0
  cases hb : fineB b
  · have HT := hideP (told_bad (N := N) (show okE B a b ps = false by rw [TB, hb]; simp))
    have B0 := FB.out
    rw [hb] at B0
    generalize N a.v b.v 0 = n at F0
    have HF0 := hideP F0
    have HA0 := hideP A0
    have HB1 := hideP B0
    clear F0 A0 B0 TB hv ha hb
    go_enter Tryz.func211, Tryz.ntmps211
    go_wp2_with fail
    rw [← HW.out]
    go_wp2_with fail
    refine (HF0.out _).mono ?_
    rintro e w1 ⟨rfl, h1⟩
    obtain ⟨a0, a1, a2, a3, _, _, _, _, _⟩ := XA.out.later h1
    go_wp2_with fail
    refine (HA0.out _).mono ?_
    rintro e w2 ⟨rfl, h2⟩
    obtain ⟨d0, d1, d2, d3, _, _, _, _, _⟩ := XB.out.later (h1.trans h2)
    go_wp2_with fail
    refine (HB1.out _).mono ?_
    rintro e w3 ⟨rfl, h3⟩
    go_wp2_with fail
    refine (wrong_any _).mono ?_
    rintro e w4 ⟨rfl, h4⟩
    obtain ⟨c0, c1, c2, c3, f0, f1, f2, f3, lt⟩ := XZ.out.later (((h1.trans h2).trans h3).trans h4)
    go_wp2
    rw [HT.out]
    simp [bodyPost, results, Tryz.results211, go_sem, c0, c1, c2, c3]
    exact Bl.set4 ((((HB0.out.trans h1).trans h2).trans h3).trans h4) (by omega) _ _ _ _
  have B0 := FB.out
  rw [hb] at B0
  have TT : okE B a b ps = okF B ps := by rw [TB, hv, ha, hb]; rfl
  have HTB := hideP (fun h => told_bad (N := N) (show okE B a b ps = false from TT.trans h))
  have HTO := hideP (fun h => told_ok (N := N) (show okE B a b ps = true from TT.trans h))
  generalize N a.v b.v 0 = n at F0 HTO
  have HF0 := hideP F0
  have HA0 := hideP A0
  have HB1 := hideP B0
  clear F0 A0 B0 TB TT hv ha hb FA FB
  go_enter Tryz.func211, Tryz.ntmps211
  go_wp2_with fail
  rw [← HW.out]
  go_wp2_with fail
  refine (HF0.out _).mono ?_
  rintro e w1 ⟨rfl, h1⟩
  obtain ⟨a0, a1, a2, a3, _, _, _, _, _⟩ := XA.out.later h1
  go_wp2_with fail
  refine (HA0.out _).mono ?_
  rintro e w2 ⟨rfl, h2⟩
  obtain ⟨d0, d1, d2, d3, _, _, _, _, _⟩ := XB.out.later (h1.trans h2)
  go_wp2_with fail
  refine (HB1.out _).mono ?_
  rintro e w3 ⟨rfl, h3⟩
  have HB3 := hideP ((h1.trans h2).trans h3)
  clear h1 h2 h3 a0 a1 a2 a3 d0 d1 d2 d3 ca cb
  go_wp2_with fail
  go_loopw [11, 12, 44] (fun lo hi i wr => ∃ k : Nat, k ≤ ps.length ∧ i = .int .i64 k ∧ lo = .int .i64 (lowF N (ps.take k)) ∧ hi = .int .i64 (highF N (ps.take k)) ∧ okF B (ps.take k) = true ∧ Bl w3 wr) (fun _ _ i _ => ps.length - (intOf i).toNat)
  case atStart => exact ⟨0, by omega, rfl, rfl, rfl, rfl, Bl.refl _⟩
  case round =>
    obtain ⟨k, hk, rfl, rfl, rfl, ho, hB⟩ := hrel
    by_cases hlt : k < ps.length
    · obtain ⟨p0, p1⟩ := (HP.out.later (HB3.out.trans hB)).2 k hlt
      have e1 := low_snoc N (ps.take k) (ps.getD k (0, 0))
      have e2 := high_snoc N (ps.take k) (ps.getD k (0, 0))
      have e3 := ok_snoc B (ps.take k) (ps.getD k (0, 0))
      rw [← take_getD ps k hlt] at e1 e2 e3
      have e4 := ok_no B ps k hlt
      have D := HF.out (ps.getD k (0, 0)).1 (ps.getD k (0, 0)).2 1
      have U := HF.out (ps.getD k (0, 0)).1 (ps.getD k (0, 0)).2 2
      rw [ho] at e3
      generalize (ps.getD k (0, 0)).1 = x at *
      generalize (ps.getD k (0, 0)).2 = y at *
      generalize N x y 1 = n1 at *
      generalize N x y 2 = n2 at *
      obtain ⟨V, hV⟩ : ∃ V, V = wr.alloc (.cells #[.int .i64 x, .int .i64 y] 215) := ⟨_, rfl⟩
      have bV : Bl wr V := by rw [hV]; exact (Bl.refl _).alloc _
      have v0 : V.cell? ⟨wr.heap.size, 0, none⟩ = some (.int .i64 x) := by rw [hV]; simp [go_sem]
      have v1 : V.cell? ⟨wr.heap.size, 1, none⟩ = some (.int .i64 y) := by rw [hV]; simp [go_sem]
      have lV : wr.heap.size < V.heap.size := by rw [hV]; simp
      have HV := hideP hV
      have HC := hideP (And.intro v0 v1)
      clear hV v0 v1
      have E4 := hideP e4
      clear e4
      have E1 := hideP e1
      have E2 := hideP e2
      have E3 := hideP e3
      clear e1 e2 e3 ho
      generalize lowF N (ps.take k) = lo at *
      generalize highF N (ps.take k) = hi at *
      cases hd : B x y 1
      · have HT := hideP (HTB.out (E4.out (by rw [hd]; rfl)))
        rw [hd] at D
        have HD := hideP D
        have HU := hideP U
        clear D U hd
        go_wp2_with fail
        rw [← HV.out]
        refine (HD.out _).mono ?_
        rintro e w4 ⟨rfl, h4⟩
        have v0 : w4.cell? ⟨wr.heap.size, 0, none⟩ = some (.int .i64 x) := by rw [bl_cell h4 _ _ lV]; exact HC.out.1
        have v1 : w4.cell? ⟨wr.heap.size, 1, none⟩ = some (.int .i64 y) := by rw [bl_cell h4 _ _ lV]; exact HC.out.2
        go_wp2_with fail
        refine (HU.out _).mono ?_
        rintro e w5 ⟨rfl, h5⟩
        go_wp2_with fail
        refine (wrong_any _).mono ?_
        rintro e w6 ⟨rfl, h6⟩
        obtain ⟨c0, c1, c2, c3, f0, f1, f2, f3, lt⟩ := XZ.out.later (((((HB3.out.trans hB).trans bV).trans h4).trans h5).trans h6)
        go_wp2
        rw [HT.out]
        simp [bodyPost, results, Tryz.results211, go_sem, c0, c1, c2, c3]
        exact Bl.set4 (((((((HB0.out.trans HB3.out)).trans hB).trans bV).trans h4).trans h5).trans h6) (by omega) _ _ _ _
      · cases hu : B x y 2
        · have HT := hideP (HTB.out (E4.out (by rw [hd, hu]; rfl)))
          rw [hd] at D
          rw [hu] at U
          have HD := hideP D
          have HU := hideP U
          clear D U hd hu
          go_wp2_with fail
          rw [← HV.out]
          refine (HD.out _).mono ?_
          rintro e w4 ⟨rfl, h4⟩
          have v0 : w4.cell? ⟨wr.heap.size, 0, none⟩ = some (.int .i64 x) := by rw [bl_cell h4 _ _ lV]; exact HC.out.1
          have v1 : w4.cell? ⟨wr.heap.size, 1, none⟩ = some (.int .i64 y) := by rw [bl_cell h4 _ _ lV]; exact HC.out.2
          go_wp2_with fail
          refine (HU.out _).mono ?_
          rintro e w5 ⟨rfl, h5⟩
          go_wp2_with fail
          refine (wrong_any _).mono ?_
          rintro e w6 ⟨rfl, h6⟩
          obtain ⟨c0, c1, c2, c3, f0, f1, f2, f3, lt⟩ := XZ.out.later (((((HB3.out.trans hB).trans bV).trans h4).trans h5).trans h6)
          go_wp2
          rw [HT.out]
          simp [bodyPost, results, Tryz.results211, go_sem, c0, c1, c2, c3]
          exact Bl.set4 (((((((HB0.out.trans HB3.out)).trans hB).trans bV).trans h4).trans h5).trans h6) (by omega) _ _ _ _
        · have HG := hideP (show okF B (ps.take (k + 1)) = true by rw [E3.out, hd, hu]; rfl)
          rw [hd] at D
          rw [hu] at U
          have HD := hideP D
          have HU := hideP U
          clear D U hd hu
          go_wp2_with fail
          rw [← HV.out]
          refine (HD.out _).mono ?_
          rintro e w4 ⟨rfl, h4⟩
          have v0 : w4.cell? ⟨wr.heap.size, 0, none⟩ = some (.int .i64 x) := by rw [bl_cell h4 _ _ lV]; exact HC.out.1
          have v1 : w4.cell? ⟨wr.heap.size, 1, none⟩ = some (.int .i64 y) := by rw [bl_cell h4 _ _ lV]; exact HC.out.2
          go_wp2_with fail
          refine (HU.out _).mono ?_
          rintro e w5 ⟨rfl, h5⟩
          go_wp2
          go_roundw
          case rel => exact ⟨k + 1, by omega, by go_num, by rw [E1.out], by rw [E2.out], HG.out, ((hB.trans bV).trans h4).trans h5⟩
          case measure => simp [intOf]; omega
    · have e : ps.take k = ps := List.take_of_length_le (by omega)
      rw [e] at ho ⊢
      have HO := hideP (HTO.out ho)
      obtain ⟨c0, c1, c2, c3, f0, f1, f2, f3, lt⟩ := XZ.out.later (HB3.out.trans hB)
      have HBB := hideP ((HB0.out.trans HB3.out).trans hB)
      clear ho e hB
      generalize lowF N ps = lo at *
      generalize highF N ps = hi at *
      go_wp2
      rw [HO.out]
      simp [bodyPost, results, Tryz.results211, go_sem, c0, c1, c2, c3]
      exact Bl.set4 HBB.out (by omega) _ _ _ _
end Go.Proofs.YtljmggemdkfbiaaGreat

/- Contracts of env's Add, Sub, Mul, Div, Root (layer 3). -/
namespace Go.Proofs.YtljmggemdkfbiaaGreat
open Go.RowKit
set_option linter.unusedSimpArgs false
set_option linter.unusedVariables false

theorem addF_any (x y m : Int) (w : World) :
    Calls Tryz.prog 209 #[prV x y, .int .i64 m] w fun e w' => e = .returned (.tuple #[.int .i64 (nA x y m), .bool (bA x y m)]) ∧ Bl w w' := by
  go_enter Tryz.func209, Tryz.ntmps209
  go_wp2_with (go_at_call 210; refine (fadd_any _ _ _).mono ?_; rintro e w1 ⟨rfl, h1⟩)
  go_ret2
  exact ⟨rfl, ((Bl.refl _).alloc _).trans h1⟩
theorem subF_any (x y m : Int) (w : World) :
    Calls Tryz.prog 218 #[prV x y, .int .i64 m] w fun e w' => e = .returned (.tuple #[.int .i64 (nS x y m), .bool (bS x y m)]) ∧ Bl w w' := by
  go_enter Tryz.func218, Tryz.ntmps218
  go_wp2_with (go_at_call 219; refine (fsub_any _ _ _).mono ?_; rintro e w1 ⟨rfl, h1⟩)
  go_ret2
  exact ⟨rfl, ((Bl.refl _).alloc _).trans h1⟩
theorem mulF_any (x y m : Int) (w : World) :
    Calls Tryz.prog 214 #[prV x y, .int .i64 m] w fun e w' => e = .returned (.tuple #[.int .i64 (fmN x y m), .bool (fmB x y m)]) ∧ Bl w w' := by
  go_enter Tryz.func214, Tryz.ntmps214
  go_wp2_with (go_at_call 215; refine (fmul_any _ _ _ _).mono ?_; rintro e w1 ⟨rfl, h1⟩)
  go_ret2
  exact ⟨rfl, ((Bl.refl _).alloc _).trans h1⟩
theorem divF_any (x y m : Int) (w : World) :
    Calls Tryz.prog 212 #[prV x y, .int .i64 m] w fun e w' => e = .returned (.tuple #[.int .i64 (fdN x y m), .bool (fdB x y m)]) ∧ Bl w w' := by
  go_enter Tryz.func212, Tryz.ntmps212
  go_wp2_with (go_at_call 213; refine (fdiv_any _ _ _ _).mono ?_; rintro e w1 ⟨rfl, h1⟩)
  go_ret2
  exact ⟨rfl, ((Bl.refl _).alloc _).trans h1⟩
theorem rootF_any (x y m : Int) (w : World) :
    Calls Tryz.prog 216 #[prV x y, .int .i64 m] w fun e w' => e = .returned (.tuple #[.int .i64 (nQ x y m), .bool (bQ x y m)]) ∧ Bl w w' := by
  go_enter Tryz.func216, Tryz.ntmps216
  go_wp2_with (go_at_call 217; refine (froot_any _ _ _).mono ?_; rintro e w1 ⟨rfl, h1⟩)
  go_ret2
  exact ⟨rfl, ((Bl.refl _).alloc _).trans h1⟩

theorem Prs.two (w : World) (blk : Nat) (hb : blk = w.heap.size) (x0 y0 x1 y1 : Int) (t : TypeId) : Prs (w.alloc (.cells #[.int .i64 x0, .int .i64 y0, .int .i64 x1, .int .i64 y1] t)) blk [(x0, y0), (x1, y1)] := by
  subst hb
  refine ⟨by simp, fun k hk => ?_⟩
  rcases (by simp at hk; omega : k = 0 ∨ k = 1) with rfl | rfl <;> simp [go_sem]
theorem Prs.four (w : World) (blk : Nat) (hb : blk = w.heap.size) (x0 y0 x1 y1 x2 y2 x3 y3 : Int) (t : TypeId) : Prs (w.alloc (.cells #[.int .i64 x0, .int .i64 y0, .int .i64 x1, .int .i64 y1, .int .i64 x2, .int .i64 y2, .int .i64 x3, .int .i64 y3] t)) blk [(x0, y0), (x1, y1), (x2, y2), (x3, y3)] := by
  subst hb
  refine ⟨by simp, fun k hk => ?_⟩
  rcases (by simp at hk; omega : k = 0 ∨ k = 1 ∨ k = 2 ∨ k = 3) with rfl | rfl | rfl | rfl <;> simp [go_sem]

theorem addT (a b : En) (blk : Nat) (w : World) (h : Prs w blk (prs2 a b)) :
    Calls Tryz.prog 211 #[enV a, enV b, .func (.func 209) #[] #[], .slice (some ⟨blk, 0, none⟩) 2 2] w fun e w' => e = .returned (enV (addE a b)) ∧ Bl w w' :=
  toldE_any _ nA bA a b (prs2 a b) blk w (enters Tryz.func209 (by kernel_rfl) rfl) addF_any (by simp [prs2]) h
theorem subT (a b : En) (blk : Nat) (w : World) (h : Prs w blk (prsX a b)) :
    Calls Tryz.prog 211 #[enV a, enV b, .func (.func 218) #[] #[], .slice (some ⟨blk, 0, none⟩) 2 2] w fun e w' => e = .returned (enV (subE a b)) ∧ Bl w w' :=
  toldE_any _ nS bS a b (prsX a b) blk w (enters Tryz.func218 (by kernel_rfl) rfl) subF_any (by simp [prsX]) h
theorem mulT (a b : En) (blk : Nat) (w : World) (h : Prs w blk (prs4 a b)) :
    Calls Tryz.prog 211 #[enV a, enV b, .func (.func 214) #[] #[], .slice (some ⟨blk, 0, none⟩) 4 4] w fun e w' => e = .returned (enV (mulE a b)) ∧ Bl w w' :=
  toldE_any _ fmN fmB a b (prs4 a b) blk w (enters Tryz.func214 (by kernel_rfl) rfl) mulF_any (by simp [prs4]) h
theorem divT (a b : En) (blk : Nat) (w : World) (h : Prs w blk (prs4 a b)) :
    Calls Tryz.prog 211 #[enV a, enV b, .func (.func 212) #[] #[], .slice (some ⟨blk, 0, none⟩) 4 4] w fun e w' => e = .returned (enV (toldE fdN fdB a b (prs4 a b))) ∧ Bl w w' :=
  toldE_any _ fdN fdB a b (prs4 a b) blk w (enters Tryz.func212 (by kernel_rfl) rfl) divF_any (by simp [prs4]) h
theorem rootT (a : En) (blk : Nat) (w : World) (h : Prs w blk (prs2 a a)) :
    Calls Tryz.prog 211 #[enV a, enV a, .func (.func 216) #[] #[], .slice (some ⟨blk, 0, none⟩) 2 2] w fun e w' => e = .returned (enV (rootE a)) ∧ Bl w w' :=
  toldE_any _ nQ bQ a a (prs2 a a) blk w (enters Tryz.func216 (by kernel_rfl) rfl) rootF_any (by simp [prs2]) h

/-- The world behind the boxes of two numbers, and of a third one that is yet to be told. -/
structure Three (w W : World) (a b : En) : Prop where
  eq : W = ((w.alloc (.cells #[.int .i64 a.v, .int .i64 a.l, .int .i64 a.h, .bool a.bad] 52)).alloc (.cells #[.int .i64 b.v, .int .i64 b.l, .int .i64 b.h, .bool b.bad] 52)).alloc (.cells #[.int .i64 0, .int .i64 0, .int .i64 0, .bool false] 52)
  bl : Bl w W
  ba : Box W w.heap.size a
  bb : Box W (w.heap.size + 1) b
  bz : Box W (w.heap.size + 1 + 1) zeroE
  size : W.heap.size = w.heap.size + 1 + 1 + 1
theorem three_ex (w : World) (a b : En) : ∃ W, Three w W a b := by
  refine ⟨_, rfl, (((Bl.refl _).alloc _).alloc _).alloc _, (Box.new w a 52).later (((Bl.refl _).alloc _).alloc _), ?_, ?_, by simp⟩
  · have := (Box.new (w.alloc (.cells #[.int .i64 a.v, .int .i64 a.l, .int .i64 a.h, .bool a.bad] 52)) b 52).later ((Bl.refl _).alloc (.cells #[.int .i64 0, .int .i64 0, .int .i64 0, .bool false] 52))
    simpa using this
  · have := Box.new ((w.alloc (.cells #[.int .i64 a.v, .int .i64 a.l, .int .i64 a.h, .bool a.bad] 52)).alloc (.cells #[.int .i64 b.v, .int .i64 b.l, .int .i64 b.h, .bool b.bad] 52)) zeroE 52
    simpa [zeroE] using this

theorem eadd_any (a b : En) (w : World) :
    Calls Tryz.prog 202 #[enV a, enV b] w fun e w' => e = .returned (enV (addE a b)) ∧ Bl w w' := by
  obtain ⟨W, X⟩ := three_ex w a b
  have HX := hideP X
  clear X
  have T := hideP (addT a b)
  generalize addE a b = r at *
  go_enter Tryz.func202, Tryz.ntmps202
  go_wp2_with fail
  rw [← HX.out.eq]
  refine (T.out _ _ (Prs.two _ _ HX.out.size.symm _ _ _ _ _)).mono ?_
  rintro e w1 ⟨rfl, h1⟩
  obtain ⟨c0, c1, c2, c3, f0, f1, f2, f3, lt⟩ := HX.out.bz.later (((Bl.refl _).alloc _).trans h1)
  go_wp2
  simp [bodyPost, results, Tryz.results202, go_sem, c0, c1, c2, c3]
  exact Bl.set4 ((HX.out.bl.alloc _).trans h1) (by omega) _ _ _ _
theorem esub_any (a b : En) (w : World) :
    Calls Tryz.prog 208 #[enV a, enV b] w fun e w' => e = .returned (enV (subE a b)) ∧ Bl w w' := by
  obtain ⟨W, X⟩ := three_ex w a b
  have HX := hideP X
  clear X
  have T := hideP (subT a b)
  generalize subE a b = r at *
  go_enter Tryz.func208, Tryz.ntmps208
  go_wp2_with fail
  rw [← HX.out.eq]
  refine (T.out _ _ (Prs.two _ _ HX.out.size.symm _ _ _ _ _)).mono ?_
  rintro e w1 ⟨rfl, h1⟩
  obtain ⟨c0, c1, c2, c3, f0, f1, f2, f3, lt⟩ := HX.out.bz.later (((Bl.refl _).alloc _).trans h1)
  go_wp2
  simp [bodyPost, results, Tryz.results208, go_sem, c0, c1, c2, c3]
  exact Bl.set4 ((HX.out.bl.alloc _).trans h1) (by omega) _ _ _ _
theorem emul_any (a b : En) (w : World) :
    Calls Tryz.prog 204 #[enV a, enV b] w fun e w' => e = .returned (enV (mulE a b)) ∧ Bl w w' := by
  obtain ⟨W, X⟩ := three_ex w a b
  have HX := hideP X
  clear X
  have T := hideP (mulT a b)
  generalize mulE a b = r at *
  go_enter Tryz.func204, Tryz.ntmps204
  go_wp2_with fail
  rw [← HX.out.eq]
  refine (T.out _ _ (Prs.four _ _ HX.out.size.symm _ _ _ _ _ _ _ _ _)).mono ?_
  rintro e w1 ⟨rfl, h1⟩
  obtain ⟨c0, c1, c2, c3, f0, f1, f2, f3, lt⟩ := HX.out.bz.later (((Bl.refl _).alloc _).trans h1)
  go_wp2
  simp [bodyPost, results, Tryz.results204, go_sem, c0, c1, c2, c3]
  exact Bl.set4 ((HX.out.bl.alloc _).trans h1) (by omega) _ _ _ _

theorem ediv_any (a b : En) (w : World) :
    Calls Tryz.prog 203 #[enV a, enV b] w fun e w' => e = .returned (enV (divE a b)) ∧ Bl w w' := by
  obtain ⟨W, X⟩ := three_ex w a b
  have HX := hideP X
  clear X
  have T := hideP (divT a b)
  unfold divE
  generalize toldE fdN fdB a b (prs4 a b) = r at *
  have hcase : (decide (b.l ≤ 0) = false) ∨ (decide (b.l ≤ 0) = true ∧ decide (0 ≤ b.h) = false) ∨ (decide (b.l ≤ 0) = true ∧ decide (0 ≤ b.h) = true) := by
    cases decide (b.l ≤ 0) <;> cases decide (0 ≤ b.h) <;> simp
  rcases hcase with k1 | ⟨k1, k2⟩ | ⟨k1, k2⟩
  · have hz : zeroB b = false := by unfold zeroB; rw [k1]; rfl
    rw [hz]
    clear hz
    have k := of_decide_eq_false k1
    go_enter Tryz.func203, Tryz.ntmps203
    go_wp2_with fail
    rw [← HX.out.eq]
    refine (T.out _ _ (Prs.four _ _ HX.out.size.symm _ _ _ _ _ _ _ _ _)).mono ?_
    rintro e w1 ⟨rfl, h1⟩
    obtain ⟨c0, c1, c2, c3, f0, f1, f2, f3, lt⟩ := HX.out.bz.later (((Bl.refl _).alloc _).trans h1)
    go_wp2
    simp [bodyPost, results, Tryz.results203, go_sem, c0, c1, c2, c3]
    exact Bl.set4 ((HX.out.bl.alloc _).trans h1) (by omega) _ _ _ _
  · have hz : zeroB b = false := by unfold zeroB; rw [k1, k2]; rfl
    rw [hz]
    clear hz
    have k := of_decide_eq_true k1
    have k' := of_decide_eq_false k2
    go_enter Tryz.func203, Tryz.ntmps203
    go_wp2_with fail
    rw [← HX.out.eq]
    refine (T.out _ _ (Prs.four _ _ HX.out.size.symm _ _ _ _ _ _ _ _ _)).mono ?_
    rintro e w1 ⟨rfl, h1⟩
    obtain ⟨c0, c1, c2, c3, f0, f1, f2, f3, lt⟩ := HX.out.bz.later (((Bl.refl _).alloc _).trans h1)
    go_wp2
    simp [bodyPost, results, Tryz.results203, go_sem, c0, c1, c2, c3]
    exact Bl.set4 ((HX.out.bl.alloc _).trans h1) (by omega) _ _ _ _
  · have hz : zeroB b = true := by unfold zeroB; rw [k1, k2]; rfl
    rw [hz]
    clear hz
    have k := of_decide_eq_true k1
    have k' := of_decide_eq_true k2
    go_enter Tryz.func203, Tryz.ntmps203
    go_wp2_with fail
    rw [← HX.out.eq]
    refine (wrong_any _).mono ?_
    rintro e w1 ⟨rfl, h1⟩
    obtain ⟨c0, c1, c2, c3, f0, f1, f2, f3, lt⟩ := HX.out.bz.later h1
    go_wp2
    simp [bodyPost, results, Tryz.results203, go_sem, c0, c1, c2, c3]
    exact Bl.set4 (HX.out.bl.trans h1) (by omega) _ _ _ _

/-- The world behind the box of one number, and of another one that is yet to be told. -/
structure Two (w W : World) (a : En) : Prop where
  eq : W = (w.alloc (.cells #[.int .i64 a.v, .int .i64 a.l, .int .i64 a.h, .bool a.bad] 52)).alloc (.cells #[.int .i64 0, .int .i64 0, .int .i64 0, .bool false] 52)
  bl : Bl w W
  ba : Box W w.heap.size a
  bz : Box W (w.heap.size + 1) zeroE
  size : W.heap.size = w.heap.size + 1 + 1
theorem two_ex (w : World) (a : En) : ∃ W, Two w W a := by
  refine ⟨_, rfl, ((Bl.refl _).alloc _).alloc _, (Box.new w a 52).later ((Bl.refl _).alloc _), ?_, by simp⟩
  have := Box.new (w.alloc (.cells #[.int .i64 a.v, .int .i64 a.l, .int .i64 a.h, .bool a.bad] 52)) zeroE 52
  simpa [zeroE] using this
theorem eroot_any (a : En) (w : World) :
    Calls Tryz.prog 206 #[enV a] w fun e w' => e = .returned (enV (rootE a)) ∧ Bl w w' := by
  obtain ⟨W, X⟩ := two_ex w a
  have HX := hideP X
  clear X
  have T := hideP (rootT a)
  generalize rootE a = r at *
  go_enter Tryz.func206, Tryz.ntmps206
  go_wp2_with fail
  rw [← HX.out.eq]
  refine (T.out _ _ (Prs.two _ _ HX.out.size.symm _ _ _ _ _)).mono ?_
  rintro e w1 ⟨rfl, h1⟩
  obtain ⟨c0, c1, c2, c3, f0, f1, f2, f3, lt⟩ := HX.out.bz.later (((Bl.refl _).alloc _).trans h1)
  go_wp2
  simp [bodyPost, results, Tryz.results206, go_sem, c0, c1, c2, c3]
  exact Bl.set4 ((HX.out.bl.alloc _).trans h1) (by omega) _ _ _ _

end Go.Proofs.YtljmggemdkfbiaaGreat

/- The contract of env's Neg (layer 3). -/
namespace Go.Proofs.YtljmggemdkfbiaaGreat
open Go.RowKit
set_option linter.unusedSimpArgs false
set_option linter.unusedVariables false

def negE (a : En) : En := subE (ptE 0 true) a
end Go.Proofs.YtljmggemdkfbiaaGreat
