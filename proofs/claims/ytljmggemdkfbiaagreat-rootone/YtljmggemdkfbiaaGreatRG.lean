/- Contracts of house's away, less, of enclosed numbers (layer 8). Written by genHu.py. -/
import Derived.Test.YtljmggemdkfbiaaGreatRF
import Derived.Test.YtljmggemdkfbiaaGreatRB
import Derived.Test.YtljmggemdkfbiaaGreatHsM
import Derived.Test.YtljmggemdkfbiaaGreatRE
import Derived.Test.YtljmggemdkfbiaaGreatRC
import Derived.Test.YtljmggemdkfbiaaGreatRefC
import Derived.Test.YtljmggemdkfbiaaGreatVeM
import Derived.Test.YtljmggemdkfbiaaGreatFrN
import Derived.Test.YtljmggemdkfbiaaGreatVeHF
import Derived.Test.YtljmggemdkfbiaaGreatRD
/- Contract of tri's Square, of enclosed numbers (layer 7). Written by genTr.py. -/
namespace Go.Proofs.YtljmggemdkfbiaaGreat
open Go.RowKit
set_option linter.unusedSimpArgs false
set_option linter.unusedVariables false

theorem boolN (x : En) : ∃ (j : Nat) (y : Bool), (cellsN x)[j]? = some (Value.bool y) := ⟨4 - 1, x.bad, rfl⟩
set_option maxRecDepth 100000 in
set_option maxHeartbeats 2000000 in
theorem tSqN (n : Nat) (p : Option Addr) (N cap : Nat) (f : Nat → Nat → En) (w : World) (h : Mx 4 cellsN w n n p N cap f) :
    Calls Tryz.prog 58 #[mV n n p N cap] w fun e w' => ∃ p' cap', e = .returned (.tuple #[mV n n p' N cap', .bool true]) ∧ (Mx 4 cellsN w' n n p' N cap' (mirM (mulMN n f (fun i k => f k i))) ∧ Fresh w.heap.size (.slice p' N cap')) ∧ Bl w w' := by
  have fm : Tryz.prog.follows .mixedOrders = true := by kernel_rfl
  have egT := enters_of Tryz.func104 (by kernel_rfl) rfl
  have egM := enters_of Tryz.func101 (by kernel_rfl) rfl
  have hsq : sqB n n N = true := by unfold sqB; rw [h.fit]; simp
  obtain ⟨Wa, hW⟩ : ∃ Wa, Wa = (w.alloc (.cells #[.int .i64 n, .int .i64 n, .slice p N cap] 48)).alloc (.cells #[.int .i64 0, .int .i64 0, .slice none 0 0] 48) := ⟨_, rfl⟩
  have b0 : Bl w Wa := by rw [hW]; exact ((Bl.refl _).alloc _).alloc _
  have m0 : MBox Wa w.heap.size n n p N cap := by rw [hW]; exact (MBox.new w _ _ _ _ _ _).later ((Bl.refl _).alloc _)
  have x0 : MBox Wa (w.heap.size + 1) 0 0 none 0 0 := by rw [hW]; have := MBox.new (w.alloc (.cells #[.int .i64 n, .int .i64 n, .slice p N cap] 48)) 0 0 none 0 0 48; rw [World.size_alloc] at this; exact this
  have hs : Wa.heap.size = w.heap.size + 1 + 1 := by rw [hW]; simp
  have HW := hideP hW
  clear hW
  go_enter Tryz.func58, Tryz.ntmps58
  go_wp2_with fail
  rw [← HW.out]
  refine (tSquareN _ _ _ _ _ _).mono ?_
  rintro e W ⟨rfl, h1⟩
  rw [hsq]
  clear HW
  replace b0 := b0.trans h1
  replace m0 := m0.later h1
  replace x0 := x0.later h1
  replace hs : w.heap.size + 1 + 1 ≤ W.heap.size := by have := h1.size; omega
  clear h1
  go_wp2_with fail
  refine (wpIn_wide (n := 8)).1 (region_q fm [some 11, some 12, some 13, some 14, some 10, some 15, some 16, some 4, none, some 5] (fun j => j == 6 || j == 9) 8 (by kernel_rfl) (by rfl)
    (fun j v u => match j with | 0 => v = mV n n p N cap | 1 => v = mV n n p N cap | 2 => ∃ q c, v = mV n n q N c ∧ Mx 4 cellsN u n n q N c (fun i k => f k i) | 3 => ∃ q c, v = .tuple #[mV n n q N c, .bool true] ∧ Mx 4 cellsN u n n q N c (mulMN n f (fun i k => f k i)) | 4 => ∃ q c, v = .tuple #[mV n n q N c, .bool true] ∧ Mx 4 cellsN u n n q N c (mulMN n f (fun i k => f k i)) | 5 => ∃ q c, v = mV n n q N c ∧ Mx 4 cellsN u n n q N c (mulMN n f (fun i k => f k i)) | 6 => v = .bool true | 7 => ∃ b, v = .pointer (some ⟨b, 0, none⟩) ∧ W.heap.size ≤ b ∧ MBox u b 0 0 none 0 0 ∧ NoB u b | 9 => v = .bool true | _ => False)
    (by
            intro j v u u' hb h
            split at h <;> first | exact h | (obtain ⟨q, c, e, h1⟩ := h; exact ⟨q, c, e, h1.later hb⟩) | (obtain ⟨b, e, h1, h2, h3⟩ := h; exact ⟨b, e, h1, h2.later hb, h3.later hb h2.lt⟩)) (fun vs u0 u => ∃ b q c, vs 7 = .pointer (some ⟨b, 0, none⟩) ∧ MBox u b n n q N c ∧ Mx 4 cellsN u n n q N c (mulMN n f (fun i k => f k i)) ∧ MBox u (w.heap.size + 1) 0 0 none 0 0 ∧ Bl w u) ?step ?still ?store ?fin)
  case step =>
    intro j o t act u ho hdt hpu hsz hu hfr hin
    have hj : j < 10 := (Array.getElem?_eq_some_iff.1 ho).1
    obtain ⟨c0, c1, c2, _, _, _, _⟩ := m0.later hu
    rcases (by omega : j = 0 ∨ j = 1 ∨ j = 2 ∨ j = 3 ∨ j = 4 ∨ j = 5 ∨ j = 6 ∨ j = 7 ∨ j = 8 ∨ j = 9) with rfl | rfl | rfl | rfl | rfl | rfl | rfl | rfl | rfl | rfl
    · simp only [List.getElem?_toArray, List.getElem?_cons_zero, List.getElem?_cons_succ, Option.some.injEq] at ho
      subst ho
      obtain rfl := Option.some.inj hdt
      have i1 : act.eval (.tmp (1 : Nat)) = .pointer (some ⟨w.heap.size, 0, none⟩) := hfr 1 (by decide)
      exact plain_wp (by intro c h; cases h) (fun _ _ => trivial) (by simp only [execOp, i1, evalC, evalF, evalG]; simp [go_sem, c0, c1, c2]) ⟨_, rfl, rfl, Bl.refl _⟩
    · simp only [List.getElem?_toArray, List.getElem?_cons_zero, List.getElem?_cons_succ, Option.some.injEq] at ho
      subst ho
      obtain rfl := Option.some.inj hdt
      have i1 : act.eval (.tmp (1 : Nat)) = .pointer (some ⟨w.heap.size, 0, none⟩) := hfr 1 (by decide)
      exact plain_wp (by intro c h; cases h) (fun _ _ => trivial) (by simp only [execOp, i1, evalC, evalF, evalG]; simp [go_sem, c0, c1, c2]) ⟨_, rfl, rfl, Bl.refl _⟩
    · simp only [List.getElem?_toArray, List.getElem?_cons_zero, List.getElem?_cons_succ, Option.some.injEq] at ho
      subst ho
      obtain rfl := Option.some.inj hdt
      have i12 : (act.eval (.tmp (12 : Nat))) = mV n n p N cap := hin ⟨1, .data⟩ (by simp) rfl 12 rfl
      refine enter_wp 104 #[mV n n p N cap] (by intro c h; cases h) (fun _ _ => trivial) (by simp only [execOp, evalC, evalF, evalG, resolve, i12, List.map_toArray, List.map_cons, List.map_nil]; simp [invoke, egT, Result.andThen, go_sem]) (by intro h; cases h) (callsIn_wide.2 (mTurnN n n p N cap f u (h.later (b0.trans hu)))) ?_
      rintro e w' ⟨q, c, rfl, ⟨hM, _, _⟩, hb⟩
      exact ⟨_, rfl, _, rfl, ⟨q, c, rfl, hM⟩, hb⟩
    · simp only [List.getElem?_toArray, List.getElem?_cons_zero, List.getElem?_cons_succ, Option.some.injEq] at ho
      subst ho
      obtain rfl := Option.some.inj hdt
      have i11 : (act.eval (.tmp (11 : Nat))) = mV n n p N cap := hin ⟨0, .data⟩ (by simp) rfl 11 rfl
      have i13 : ∃ q c, (act.eval (.tmp (13 : Nat))) = mV n n q N c ∧ Mx 4 cellsN u n n q N c (fun i k => f k i) := hin ⟨2, .data⟩ (by simp) rfl 13 rfl
      obtain ⟨q0, c0', e1, hq⟩ := i13
      refine enter_wp 101 #[mV n n p N cap, mV n n q0 N c0'] (by intro c h; cases h) (fun _ _ => trivial) (by simp only [execOp, evalC, evalF, evalG, resolve, i11, e1, List.map_toArray, List.map_cons, List.map_nil]; simp [invoke, egM, Result.andThen, go_sem]) (by intro h; cases h) (callsIn_wide.2 (mMulN n n n p N cap f q0 N c0' (fun i k => f k i) N u (h.later (b0.trans hu)) hq h.2.1)) ?_
      rintro e w' ⟨q, c, rfl, ⟨hM, _, _⟩, hb⟩
      exact ⟨_, rfl, _, rfl, ⟨q, c, rfl, hM⟩, hb⟩
    · simp only [List.getElem?_toArray, List.getElem?_cons_zero, List.getElem?_cons_succ, Option.some.injEq] at ho
      subst ho
      obtain rfl := Option.some.inj hdt
      have i14 : ∃ q c, (act.eval (.tmp (14 : Nat))) = .tuple #[mV n n q N c, .bool true] ∧ Mx 4 cellsN u n n q N c (mulMN n f (fun i k => f k i)) := hin ⟨3, .data⟩ (by simp) rfl 14 rfl
      obtain ⟨q0, c0', e1, hq⟩ := i14
      exact plain_wp (by intro c h; cases h) (fun _ _ => trivial) (by simp only [execOp, e1]; simp [go_sem]) ⟨_, rfl, ⟨q0, c0', rfl, hq⟩, Bl.refl _⟩
    · simp only [List.getElem?_toArray, List.getElem?_cons_zero, List.getElem?_cons_succ, Option.some.injEq] at ho
      subst ho
      obtain rfl := Option.some.inj hdt
      have i10 : ∃ q c, (act.eval (.tmp (10 : Nat))) = .tuple #[mV n n q N c, .bool true] ∧ Mx 4 cellsN u n n q N c (mulMN n f (fun i k => f k i)) := hin ⟨4, .data⟩ (by simp) rfl 10 rfl
      obtain ⟨q0, c0', e1, hq⟩ := i10
      exact plain_wp (by intro c h; cases h) (fun _ _ => trivial) (by simp only [execOp, e1]; simp [go_sem]) ⟨_, rfl, ⟨q0, c0', rfl, hq⟩, Bl.refl _⟩
    · cases hpu
    · simp only [List.getElem?_toArray, List.getElem?_cons_zero, List.getElem?_cons_succ, Option.some.injEq] at ho
      subst ho
      obtain rfl := Option.some.inj hdt
      exact plain_wp (by intro c h; cases h) (fun _ _ => trivial) (w' := u.alloc (.cells #[.int .i64 0, .int .i64 0, .slice none 0 0] 48)) (v := .pointer (some ⟨u.heap.size, 0, none⟩)) (by simp only [execOp]; simp [go_sem]) ⟨_, rfl, ⟨u.heap.size, rfl, hu.size, MBox.new u 0 0 none 0 0 _, noB_new u _⟩, (Bl.refl _).alloc _⟩
    · simp only [List.getElem?_toArray, List.getElem?_cons_zero, List.getElem?_cons_succ, Option.some.injEq] at ho
      subst ho
      cases hdt
    · cases hpu
  case still =>
    intro j o t act u0 u ho hdt hpu hsz hu hfr hin
    have hj : j < 10 := (Array.getElem?_eq_some_iff.1 ho).1
    obtain ⟨c0, c1, c2, _, _, _, _⟩ := m0.later hu
    rcases (by omega : j = 0 ∨ j = 1 ∨ j = 2 ∨ j = 3 ∨ j = 4 ∨ j = 5 ∨ j = 6 ∨ j = 7 ∨ j = 8 ∨ j = 9) with rfl | rfl | rfl | rfl | rfl | rfl | rfl | rfl | rfl | rfl
    · cases hpu
    · cases hpu
    · cases hpu
    · cases hpu
    · cases hpu
    · cases hpu
    · simp only [List.getElem?_toArray, List.getElem?_cons_zero, List.getElem?_cons_succ, Option.some.injEq] at ho
      subst ho
      obtain rfl := Option.some.inj hdt
      have i10 : ∃ q c, (act.eval (.tmp (10 : Nat))) = .tuple #[mV n n q N c, .bool true] ∧ Mx 4 cellsN u0 n n q N c (mulMN n f (fun i k => f k i)) := hin ⟨4, .data⟩ (by simp) rfl 10 rfl
      obtain ⟨q0, c0', e1, hq⟩ := i10
      exact plain_wp (by intro c h; cases h) (fun _ _ => trivial) (by simp only [execOp, e1]; simp [go_sem]) ⟨_, rfl, rfl, rfl⟩
    · cases hpu
    · cases hpu
    · simp only [List.getElem?_toArray, List.getElem?_cons_zero, List.getElem?_cons_succ, Option.some.injEq] at ho
      subst ho
      obtain rfl := Option.some.inj hdt
      have i16 : (act.eval (.tmp (16 : Nat))) = .bool true := hin ⟨6, .data⟩ (by simp) rfl 16 rfl
      exact plain_wp (by intro c h; cases h) (fun _ _ => trivial) (by simp only [execOp, i16, evalC, evalF, evalG]; simp [go_sem]) ⟨_, rfl, rfl, rfl⟩
  case store =>
    intro o act u vs ho hsz hu hfr hin
    simp only [List.getElem?_toArray, List.getElem?_cons_zero, List.getElem?_cons_succ, Option.some.injEq] at ho
    subst ho
    obtain ⟨i4, k4⟩ : act.eval (.tmp (4 : Nat)) = vs 7 ∧ (∃ b, (vs 7) = .pointer (some ⟨b, 0, none⟩) ∧ W.heap.size ≤ b ∧ MBox u b 0 0 none 0 0 ∧ NoB u b) := hin 7 4 rfl rfl
    obtain ⟨i15, k15⟩ : act.eval (.tmp (15 : Nat)) = vs 5 ∧ (∃ q c, (vs 5) = mV n n q N c ∧ Mx 4 cellsN u n n q N c (mulMN n f (fun i k => f k i))) := hin 5 15 rfl rfl
    obtain ⟨b, e1, hb, bx, nb⟩ := k4
    obtain ⟨q0, c0', e2, hq⟩ := k15
    rw [e1] at i4
    rw [e2] at i15
    obtain ⟨c0, c1, c2, f0, f1, f2, ltb⟩ := id bx
    exact skip_wp (by intro c h; cases h) (fun _ _ => trivial) (by simp only [execOp, i4, i15]; simp [go_sem, c0, c1, c2, f0, f1, f2]) ⟨rfl, b, q0, c0', e1, bx.fill _ _ _ _ _, mx_ne7 hq (noB_mx boolN hq nb) _ _ _, mbox_set7 (mbox_set7 (mbox_set7 (x0.later hu) (by omega) _ _) (by omega) _ _) (by omega) _ _, Bl.put3 (b0.trans hu) (by have := b0.size; omega) _ _ _⟩
  case fin =>
    intro vs vb u0 u hu hin hps
    have a0 := hin 0 11 rfl
    have a1 := hin 1 12 rfl
    have a2 := hin 2 13 rfl
    have a3 := hin 3 14 rfl
    have a4 := hin 4 10 rfl
    have a5 := hin 5 15 rfl
    have a6 := hin 6 16 rfl
    have a7 := hin 7 4 rfl
    have a9 := hin 9 5 rfl
    simp only [putL, Act.put, List.setIfInBounds_toArray, List.set_cons_zero, List.set_cons_succ, Nat.zero_add, Nat.reduceAdd, Nat.reduceBEq, Bool.or_false, Bool.or_true, Bool.false_or, Bool.true_or, Bool.false_eq_true, if_false, if_true, reduceIte, Nat.reduceEqDiff, beq_self_eq_true, Bool.or_self] at a0 a1 a2 a3 a4 a5 a6 a7 a9 ⊢
    rw [if_pos (by decide)] at hps
    simp only [a0, a1, a6, a9]
    obtain ⟨b, q, c, e7, bx, hM, xz, hbw⟩ := hps
    simp only [e7]
    clear a2 a3 a4 a5 a7
    have MI := hideP (fun u' (hu' : Bl u u') => mMirrorN n q N c _ u' (hM.later hu'))
    obtain ⟨c0, c1, c2, f0, f1, f2, ltb⟩ := bx
    go_wp2_with fail
    refine (MI.out _ (Bl.refl _)).mono ?_
    rintro e w3 ⟨p', cap', rfl, ⟨hR, _, hF⟩, h3⟩
    have HR := hideP hR
    have HF := hideP (show Fresh (w.heap.size + 1 + 1) (.slice p' N cap') from fun g hg => by have := hF g hg; have := xz.lt; omega)
    clear hR hF MI c0 c1 c2 f0 f1 f2
    obtain ⟨c0, c1, c2, f0, f1, f2, lt2⟩ := xz.later h3
    go_wp2
    simp [bodyPost, results, Tryz.results58, go_sem, c0, c1, c2]
    exact ⟨p', cap', ⟨rfl, rfl⟩, ⟨mx_put7 HR.out HF.out _ _ _, fun g hg => by have := HF.out g hg; omega⟩, Bl.put3 (hbw.trans h3) (Nat.le_succ _) _ _ _⟩
end Go.Proofs.YtljmggemdkfbiaaGreat

/- Contracts of mat's each, Add, Sub, of enclosed numbers (layer 6). -/
namespace Go.Proofs.YtljmggemdkfbiaaGreat
open Go.RowKit
set_option linter.unusedSimpArgs false
set_option linter.unusedVariables false

set_option maxRecDepth 100000 in
set_option maxHeartbeats 2000000 in
theorem mEachN (G : Nat) (op : En → En → En) (eg : ∀ (args : Array Value) (w : World), (callFunc G args).run Tryz.prog w = .ok (.enter G args) w) (R C : Nat) (p q : Option Addr) (n cap cap2 : Nat) (f g : Nat → Nat → En) (w : World) (hx : Mx 4 cellsN w R C p n cap f) (hy : Mx 4 cellsN w R C q n cap2 g)
    (hG : ∀ (va vb : Value) (xs ys : List En) (w : World), Rq 4 cellsN w va xs → Rq 4 cellsN w vb ys → xs.length ≤ 1000000 → ys.length ≤ 1000000 → Calls Tryz.prog G #[va, vb] w fun e w' => ∃ u, e = .returned u ∧ Rw 4 cellsN w' u (List.zipWith op xs ys) ∧ Fresh w.heap.size u ∧ Bl w w') :
    Calls Tryz.prog 201 #[mV R C p n cap, mV R C q n cap2, .func (.func G) #[] #[]] w fun e w' => ∃ p' cap', e = .returned (.tuple #[mV R C p' n cap', .bool true]) ∧ (Mx 4 cellsN w' R C p' n cap' (fun i k => op (f i k) (g i k)) ∧ Fresh w.heap.size (.slice p' n cap')) ∧ Bl w w' := by
  have hfx := hx.fit
  have fm : Tryz.prog.follows .mixedOrders = true := by kernel_rfl
  obtain ⟨W, hW⟩ : ∃ W, W = ((w.alloc (.cells #[.int .i64 R, .int .i64 C, .slice p n cap] 48)).alloc (.cells #[.int .i64 R, .int .i64 C, .slice q n cap2] 48)).alloc (.cells #[.int .i64 0, .int .i64 0, .slice none 0 0] 48) := ⟨_, rfl⟩
  have b0 : Bl w W := by rw [hW]; exact (((Bl.refl _).alloc _).alloc _).alloc _
  have mx0 : MBox W w.heap.size R C p n cap := by rw [hW]; exact (MBox.new w _ _ _ _ _ _).later (((Bl.refl _).alloc _).alloc _)
  have my0 : MBox W (w.heap.size + 1) R C q n cap2 := by rw [hW]; have := (MBox.new (w.alloc (.cells #[.int .i64 R, .int .i64 C, .slice p n cap] 48)) R C q n cap2 48); rw [World.size_alloc] at this; exact this.later ((Bl.refl _).alloc _)
  have mz0 : MBox W (w.heap.size + 1 + 1) 0 0 none 0 0 := by rw [hW]; have := MBox.new ((w.alloc (.cells #[.int .i64 R, .int .i64 C, .slice p n cap] 48)).alloc (.cells #[.int .i64 R, .int .i64 C, .slice q n cap2] 48)) 0 0 none 0 0 48; rw [World.size_alloc, World.size_alloc] at this; exact this
  have hs0 : W.heap.size = w.heap.size + 1 + 1 + 1 := by rw [hW]; simp
  have HX := hideP hx
  have HY := hideP hy
  have HG := hideP hG
  have HW := hideP hW
  clear hW hx hy hG
  go_enter Tryz.func201, Tryz.ntmps201
  go_wp2_with fail
  rw [← HW.out]
  refine (mRightN _ _ _ _ _ _).mono ?_
  rintro e w1 ⟨rfl, h1⟩
  rw [hfx]
  obtain ⟨d0, d1, d2, u0, u1, u2, ltm⟩ := my0.later h1
  go_wp2_with fail
  refine (mRightN _ _ _ _ _ _).mono ?_
  rintro e w2 ⟨rfl, h2⟩
  rw [hfx]
  clear d0 d1 d2 u0 u1 u2 ltm
  have hB2 : Bl W w2 := h1.trans h2
  obtain ⟨c0, c1, c2, f0, f1, f2, lt⟩ := mx0.later hB2
  obtain ⟨d0, d1, d2, u0, u1, u2, ltm⟩ := my0.later hB2
  go_wp2_with fail
  clear c0 c1 c2 f0 f1 f2 lt d0 d1 d2 u0 u1 u2 ltm
  have ES : EachS w R C p q n cap cap2 w2 := ⟨mx0.later hB2, my0.later hB2, ⟨_, _, _, _, _, mz0.later hB2⟩, b0.trans hB2⟩
  have CL := hideP (fun (u : World) (hu : Bl w u) => (HG.out (.slice p n cap) (.slice q n cap2) (mk R C f) (mk R C g) u (HX.out.2.2.later hu) (HY.out.2.2.later hu) (by rw [mk_len]; have := HX.out.1.lt; omega) (by rw [mk_len]; have := HX.out.1.lt; omega)).mono (R' := fun e w' => ∃ p' cap', e = .returned (.slice p' n cap') ∧ (Rw 4 cellsN w' (.slice p' n cap') (mk R C (fun i k => op (f i k) (g i k))) ∧ Fresh u.heap.size (.slice p' n cap')) ∧ Bl u w') (by
    rintro e w' ⟨v, rfl, hr, hf, hb⟩
    rw [mk_zip] at hr
    obtain ⟨p', cap', rfl, _, _⟩ := hr.cut
    rw [mk_len, ← HX.out.2.1] at hr hf ⊢
    exact ⟨p', cap', rfl, ⟨hr, hf⟩, hb⟩))
  have KP := hideP (fun (u : World) (hu : EachS w R C p q n cap cap2 u) => (show u.cell? ⟨w.heap.size, 0, none⟩ = some (.int .i64 R) ∧ u.cell? ⟨w.heap.size, 1, none⟩ = some (.int .i64 C) ∧ u.cell? ⟨w.heap.size, 2, none⟩ = some (.slice p n cap) ∧ u.cell? ⟨w.heap.size + 1, 2, none⟩ = some (.slice q n cap2) ∧ EachS w R C p q n cap cap2 u from ⟨hu.x.c0, hu.x.c1, hu.x.c2, hu.y.c2, hu⟩))
  have HES := hideP ES
  clear ES mx0 my0 mz0
  go_region_held3 (fun u => u.cell? ⟨w.heap.size, 0, none⟩ = some (.int .i64 R) ∧ u.cell? ⟨w.heap.size, 1, none⟩ = some (.int .i64 C) ∧ u.cell? ⟨w.heap.size, 2, none⟩ = some (.slice p n cap) ∧ u.cell? ⟨w.heap.size + 1, 2, none⟩ = some (.slice q n cap2) ∧ EachS w R C p q n cap cap2 u)
    (first | exact KP.out _ ((HES.out.later (show Bl w2 w3 by repeat (first | exact Bl.refl _ | apply Bl.drew | (refine Bl.trans ?_ (by assumption))))).stored _ _ _ _ _) | exact KP.out _ (HES.out.later (by repeat (first | exact Bl.refl _ | apply Bl.drew | (refine Bl.trans ?_ (by assumption))))))
    (first
      | (refine (CL.out _ (HES.out.later (by repeat (first | exact Bl.refl _ | apply Bl.drew | (refine Bl.trans ?_ (by assumption))))).bl).mono ?_; rintro e w3 ⟨p', cap', rfl, ⟨hR, hF⟩, h3⟩; obtain ⟨a1, a2, a3, a4, a5, ⟨z0, z1, z2, y0, y1, y2, ltz⟩⟩ := (HES.out.later (show Bl w2 w3 by repeat (first | exact Bl.refl _ | apply Bl.drew | (refine Bl.trans ?_ (by assumption))))).z))
  have hF' : Fresh (w.heap.size + 1 + 1 + 1) (.slice p' n cap') := fun b hb => by
    have h1 := hF b hb
    have h2 := hB2.size
    have h4 : w2.heap.size ≤ w2.drew.heap.size := Nat.le_refl _
    omega
  have HR := hideP hR
  have HF := hideP hF'
  clear hR hF hF'
  rename_i hh
  obtain ⟨_, _, _, _, hS⟩ := hh
  have HS := hideP hS
  clear hS
  go_wp2
  simp [bodyPost, results, Tryz.results201, go_sem, z0, z1, z2]
  have q := ((HR.out.set (p := ⟨w.heap.size + 1 + 1, 0, none⟩) (.int .i64 R) HF.out).set (p := ⟨w.heap.size + 1 + 1, 1, none⟩) (.int .i64 C) HF.out).set (p := ⟨w.heap.size + 1 + 1, 2, none⟩) (.slice p' n cap') HF.out
  exact ⟨p', cap', ⟨rfl, rfl⟩, ⟨⟨HX.out.1, HX.out.2.1, q.q⟩, fun b hb => by have := HF.out b hb; omega⟩, HS.out.bl⟩
theorem mAddN' (R C : Nat) (p q : Option Addr) (n cap cap2 : Nat) (f g : Nat → Nat → En) (w : World) (hx : Mx 4 cellsN w R C p n cap f) (hy : Mx 4 cellsN w R C q n cap2 g) :
    Calls Tryz.prog 199 #[mV R C p n cap, mV R C q n cap2] w fun e w' => ∃ p' cap', e = .returned (.tuple #[mV R C p' n cap', .bool true]) ∧ (Mx 4 cellsN w' R C p' n cap' (fun i k => addE (f i k) (g i k)) ∧ Fresh w.heap.size (.slice p' n cap')) ∧ Bl w w' := by
  obtain ⟨W, hW⟩ : ∃ W, W = ((w.alloc (.cells #[.int .i64 R, .int .i64 C, .slice p n cap] 48)).alloc (.cells #[.int .i64 R, .int .i64 C, .slice q n cap2] 48)).alloc (.cells #[.int .i64 0, .int .i64 0, .slice none 0 0] 48) := ⟨_, rfl⟩
  have b0 : Bl w W := by rw [hW]; exact (((Bl.refl _).alloc _).alloc _).alloc _
  have mz0 : MBox W (w.heap.size + 1 + 1) 0 0 none 0 0 := by rw [hW]; have := MBox.new ((w.alloc (.cells #[.int .i64 R, .int .i64 C, .slice p n cap] 48)).alloc (.cells #[.int .i64 R, .int .i64 C, .slice q n cap2] 48)) 0 0 none 0 0 48; rw [World.size_alloc, World.size_alloc] at this; exact this
  have hs0 : W.heap.size = w.heap.size + 1 + 1 + 1 := by rw [hW]; simp
  have E := hideP (mEachN 77 addE (enters_of Tryz.func77 (by kernel_rfl) rfl) R C p q n cap cap2 f g W (hx.later b0) (hy.later b0) (fun va vb xs ys w h1 h2 h3 h4 => vAddN' va vb xs ys w h1 h2 h3 h4))
  have HW := hideP hW
  clear hW hx hy
  go_enter Tryz.func199, Tryz.ntmps199
  go_wp2_with fail
  rw [← HW.out]
  refine E.out.mono ?_
  rintro e w1 ⟨p', cap', rfl, ⟨hm, hf⟩, h1⟩
  have HM := hideP hm
  have HF := hideP (show Fresh (w.heap.size + 1 + 1 + 1) (.slice p' n cap') from fun b hb => by have := hf b hb; omega)
  obtain ⟨z0, z1, z2, y0, y1, y2, ltz⟩ := mz0.later h1
  clear hm hf E
  go_wp2
  simp [bodyPost, results, Tryz.results199, go_sem, z0, z1, z2]
  exact ⟨p', cap', ⟨rfl, rfl⟩, ⟨Mx.put3 HM.out HF.out _ _ _, fun b hb => by have := HF.out b hb; omega⟩, Bl.put3 (b0.trans h1) (by omega) _ _ _⟩
theorem mAddN (R C : Nat) (p q : Option Addr) (n cap cap2 : Nat) (f g : Nat → Nat → En) (w : World) (hx : Mx 4 cellsN w R C p n cap f) (hy : Mx 4 cellsN w R C q n cap2 g) :
    Calls Tryz.prog 199 #[mV R C p n cap, mV R C q n cap2] w fun e w' => ∃ p' cap', e = .returned (.tuple #[mV R C p' n cap', .bool true]) ∧ Mx 4 cellsN w' R C p' n cap' (fun i k => addE (f i k) (g i k)) ∧ Bl w w' :=
  (mAddN' R C p q n cap cap2 f g w hx hy).mono fun _ _ ⟨p', c', h1, h2, h3⟩ => ⟨p', c', h1, h2.1, h3⟩
theorem mSubN' (R C : Nat) (p q : Option Addr) (n cap cap2 : Nat) (f g : Nat → Nat → En) (w : World) (hx : Mx 4 cellsN w R C p n cap f) (hy : Mx 4 cellsN w R C q n cap2 g) :
    Calls Tryz.prog 200 #[mV R C p n cap, mV R C q n cap2] w fun e w' => ∃ p' cap', e = .returned (.tuple #[mV R C p' n cap', .bool true]) ∧ (Mx 4 cellsN w' R C p' n cap' (fun i k => subE (f i k) (g i k)) ∧ Fresh w.heap.size (.slice p' n cap')) ∧ Bl w w' := by
  obtain ⟨W, hW⟩ : ∃ W, W = ((w.alloc (.cells #[.int .i64 R, .int .i64 C, .slice p n cap] 48)).alloc (.cells #[.int .i64 R, .int .i64 C, .slice q n cap2] 48)).alloc (.cells #[.int .i64 0, .int .i64 0, .slice none 0 0] 48) := ⟨_, rfl⟩
  have b0 : Bl w W := by rw [hW]; exact (((Bl.refl _).alloc _).alloc _).alloc _
  have mz0 : MBox W (w.heap.size + 1 + 1) 0 0 none 0 0 := by rw [hW]; have := MBox.new ((w.alloc (.cells #[.int .i64 R, .int .i64 C, .slice p n cap] 48)).alloc (.cells #[.int .i64 R, .int .i64 C, .slice q n cap2] 48)) 0 0 none 0 0 48; rw [World.size_alloc, World.size_alloc] at this; exact this
  have hs0 : W.heap.size = w.heap.size + 1 + 1 + 1 := by rw [hW]; simp
  have E := hideP (mEachN 163 subE (enters_of Tryz.func163 (by kernel_rfl) rfl) R C p q n cap cap2 f g W (hx.later b0) (hy.later b0) (fun va vb xs ys w h1 h2 h3 h4 => vSubN' va vb xs ys w h1 h2 h3 h4))
  have HW := hideP hW
  clear hW hx hy
  go_enter Tryz.func200, Tryz.ntmps200
  go_wp2_with fail
  rw [← HW.out]
  refine E.out.mono ?_
  rintro e w1 ⟨p', cap', rfl, ⟨hm, hf⟩, h1⟩
  have HM := hideP hm
  have HF := hideP (show Fresh (w.heap.size + 1 + 1 + 1) (.slice p' n cap') from fun b hb => by have := hf b hb; omega)
  obtain ⟨z0, z1, z2, y0, y1, y2, ltz⟩ := mz0.later h1
  clear hm hf E
  go_wp2
  simp [bodyPost, results, Tryz.results200, go_sem, z0, z1, z2]
  exact ⟨p', cap', ⟨rfl, rfl⟩, ⟨Mx.put3 HM.out HF.out _ _ _, fun b hb => by have := HF.out b hb; omega⟩, Bl.put3 (b0.trans h1) (by omega) _ _ _⟩
theorem mSubN (R C : Nat) (p q : Option Addr) (n cap cap2 : Nat) (f g : Nat → Nat → En) (w : World) (hx : Mx 4 cellsN w R C p n cap f) (hy : Mx 4 cellsN w R C q n cap2 g) :
    Calls Tryz.prog 200 #[mV R C p n cap, mV R C q n cap2] w fun e w' => ∃ p' cap', e = .returned (.tuple #[mV R C p' n cap', .bool true]) ∧ Mx 4 cellsN w' R C p' n cap' (fun i k => subE (f i k) (g i k)) ∧ Bl w w' :=
  (mSubN' R C p q n cap cap2 f g w hx hy).mono fun _ _ ⟨p', c', h1, h2, h3⟩ => ⟨p', c', h1, h2.1, h3⟩
end Go.Proofs.YtljmggemdkfbiaaGreat

/- What is done with enclosed numbers. -/
namespace Go.Proofs.YtljmggemdkfbiaaGreat
open Go.RowKit
set_option linter.unusedSimpArgs false
set_option linter.unusedVariables false

def kdN : Kd En := { z := wholeN 0, add := addE, sub := subE, mul := mulE, div := divE, root := rootE, neg := negE, dot := dotN }
end Go.Proofs.YtljmggemdkfbiaaGreat

/- Contracts of joseph's New, around, mirrored, of enclosed numbers (layer 9). Written by genJo.py. -/
namespace Go.Proofs.YtljmggemdkfbiaaGreat
open Go.RowKit
set_option linter.unusedSimpArgs false
set_option linter.unusedVariables false

theorem rw_put4N {w : World} {v : Value} {xs : List En} {b : Nat} (h : Rw 4 cellsN w v xs) (hf : Fresh (b + 1) v) (v0 v1 v2 v3 : Value) : Rw 4 cellsN ((((w.setCell ⟨b, 0, none⟩ v0).setCell ⟨b, 1, none⟩ v1).setCell ⟨b, 2, none⟩ v2).setCell ⟨b, 3, none⟩ v3) v xs := by
  rcases h with h | ⟨g, o, cap, rfl, hc, hb, hx⟩
  · exact .inl h
  · have hne : b + 1 ≤ g := hf g rfl
    have hk : ((((w.setCell ⟨b, 0, none⟩ v0).setCell ⟨b, 1, none⟩ v1).setCell ⟨b, 2, none⟩ v2).setCell ⟨b, 3, none⟩ v3).heap[g]? = w.heap[g]? := by
      rw [Below.heap_setCell _ _ _ g (by show g ≠ b; omega), Below.heap_setCell _ _ _ g (by show g ≠ b; omega), Below.heap_setCell _ _ _ g (by show g ≠ b; omega), Below.heap_setCell _ _ _ g (by show g ≠ b; omega)]
    exact .inr ⟨g, o, cap, rfl, hc, by simpa using hb, fun j x hj k v hv => (World.cell?_of_block (a := ⟨g, o + j * 4 + k, none⟩) hk).trans (hx j x hj k v hv)⟩
theorem clone_linN (px : Option Addr) (n cx : Nat) (x : Nat → En) (w : World) (h : Rq 4 cellsN w (.slice px n cx) (linJ n x)) (hl : n ≤ 1000000) :
    Calls Tryz.prog 72 #[.slice px n cx] w fun e w' => ∃ q c, e = .returned (.slice q n c) ∧ (Rw 4 cellsN w' (.slice q n c) (linJ n x) ∧ Fresh w.heap.size (.slice q n c)) ∧ Bl w w' :=
  (vCloneN _ _ w h (by rw [linJ_len]; exact hl)).mono fun e w' ⟨u, he, hr, hf, hb⟩ => by
    obtain ⟨q, c, rfl, _, _⟩ := hr.cut
    rw [linJ_len] at hr hf he
    exact ⟨q, c, he, ⟨hr, hf⟩, hb⟩
end Go.Proofs.YtljmggemdkfbiaaGreat

/- Contracts of root's fits, Right and Cover, of enclosed numbers (layer 10). Written by genRo.py. -/
namespace Go.Proofs.YtljmggemdkfbiaaGreat
open Go.RowKit
set_option linter.unusedSimpArgs false
set_option linter.unusedVariables false

set_option maxHeartbeats 1000000 in
theorem rFitsN (px : Option Addr) (nx cx : Nat) (r c : Int) (p : Option Addr) (n cap : Nat) (w : World) :
    Calls Tryz.prog 59 #[.slice px nx cx, mV r c p n cap] w fun e w' => e = .returned (.bool (fitJ r c n nx)) ∧ Bl w w' := by
  obtain ⟨W, hW⟩ : ∃ W, W = w.alloc (.cells #[.int .i64 r, .int .i64 c, .slice p n cap] 48) := ⟨_, rfl⟩
  have b0 : Bl w W := by rw [hW]; exact (Bl.refl _).alloc _
  have m0 : MBox W w.heap.size r c p n cap := by rw [hW]; exact MBox.new w _ _ _ _ _ _
  have HW := hideP hW
  obtain ⟨c0, c1, c2, f0, f1, f2, lt⟩ := id m0
  rw [hW] at c0 c1 c2
  have SB := fun u : World => (by kernel_rfl : (Instr.build 134 #[(0, .slice px nx cx), (1, mV r c p n cap)]).run Tryz.prog u = .ok (sJ px nx cx r c p n cap) u)
  clear hW
  go_enter Tryz.func59, Tryz.ntmps59
  go_wp2_with fail
  rw [← HW.out]
  refine (jRightN px nx cx r c p n cap W).mono ?_
  rintro e w1 ⟨rfl, h1⟩
  go_wp2
  go_ret
  exact ⟨rfl, b0.trans h1⟩
set_option maxHeartbeats 1000000 in
theorem rRightN (px : Option Addr) (nx cx : Nat) (r c : Int) (p : Option Addr) (n cap : Nat) (w : World) :
    Calls Tryz.prog 21 #[sJ px nx cx r c p n cap] w fun e w' => e = .returned (.bool (fitJ r c n nx)) ∧ Bl w w' := by
  obtain ⟨W, hW⟩ : ∃ W, W = w.alloc (.cells #[.slice px nx cx, .int .i64 r, .int .i64 c, .slice p n cap] 50) := ⟨_, rfl⟩
  have b0 : Bl w W := by rw [hW]; exact (Bl.refl _).alloc _
  have s0 : SBox W w.heap.size px nx cx r c p n cap := by rw [hW]; exact SBox.new w _ _ _ _ _ _ _ _ _
  have HW := hideP hW
  obtain ⟨c0, c1, c2, c3, _, _, _, _, _⟩ := id s0
  rw [hW] at c0 c1 c2 c3
  clear hW
  go_enter Tryz.func21, Tryz.ntmps21
  go_wp2_with fail
  rw [← HW.out]
  refine (rFitsN px nx cx r c p n cap W).mono ?_
  rintro e w1 ⟨rfl, h1⟩
  go_wp2
  go_ret
  exact ⟨rfl, b0.trans h1⟩
set_option maxRecDepth 100000 in
set_option maxHeartbeats 2000000 in
theorem rCoverN (n : Nat) (px : Option Addr) (cx : Nat) (p : Option Addr) (N cap : Nat) (f : Nat → Nat → En) (w : World) (h : Mx 4 cellsN w n n p N cap f) (h4 : n ≤ 4) :
    Calls Tryz.prog 20 #[sJ px n cx n n p N cap] w fun e w' => ∃ p' c', e = .returned (mV n n p' N c') ∧ Mx 4 cellsN w' n n p' N c' (squareJ kdN n f) ∧ Bl w w' := by
  have hfit := fitJ_dim h.1 h.2.1 h4
  obtain ⟨W, hW⟩ : ∃ W, W = (w.alloc (.cells #[.slice px n cx, .int .i64 n, .int .i64 n, .slice p N cap] 50)).alloc (.cells #[.int .i64 0, .int .i64 0, .slice none 0 0] 48) := ⟨_, rfl⟩
  have b0 : Bl w W := by rw [hW]; exact ((Bl.refl _).alloc _).alloc _
  have s0 : SBox W w.heap.size px n cx n n p N cap := by rw [hW]; exact (SBox.new w _ _ _ _ _ _ _ _ _).later ((Bl.refl _).alloc _)
  have z0 : MBox W (w.heap.size + 1) 0 0 none 0 0 := by rw [hW]; have := MBox.new (w.alloc (.cells #[.slice px n cx, .int .i64 n, .int .i64 n, .slice p N cap] 50)) 0 0 none 0 0 48; rw [World.size_alloc] at this; exact this
  have hs : W.heap.size = w.heap.size + 1 + 1 := by rw [hW]; simp
  have HM := hideP h
  have HW := hideP hW
  obtain ⟨c0, c1, c2, c3, _, _, _, _, _⟩ := id s0
  rw [hW] at c0 c1 c2 c3
  clear hW h
  go_enter Tryz.func20, Tryz.ntmps20
  go_wp2_with fail
  try simp only [World.size_alloc]
  rw [← HW.out]
  refine (rRightN px n cx n n p N cap W).mono ?_
  rintro e w1 ⟨rfl, h1⟩
  rw [hfit]
  clear c0 c1 c2 c3
  obtain ⟨c0, c1, c2, c3, _, _, _, _, _⟩ := s0.later h1
  go_wp2_with fail
  refine (tSqN n p N cap f w1 (HM.out.later (b0.trans h1))).mono ?_
  rintro e w2 ⟨p2, c2', rfl, ⟨hP, hF⟩, h2⟩
  obtain ⟨d0, d1, d2, g0, g1, g2, _⟩ := z0.later (h1.trans (h2.trans ((Bl.refl _).alloc (.cells #[.int .i64 n, .int .i64 n, .slice p2 N c2'] 48))))
  have k2 := MBox.new w2 n n p2 N c2' 48
  obtain ⟨W2, hW2⟩ : ∃ W2, W2 = w2.alloc (.cells #[.int .i64 n, .int .i64 n, .slice p2 N c2'] 48) := ⟨_, rfl⟩
  have b2 : Bl w2 W2 := by rw [hW2]; exact (Bl.refl _).alloc _
  have B2 : Bl w W2 := (b0.trans h1).trans (h2.trans b2)
  have HP := hideP (Mx.later hP b2)
  have HF := hideP hF
  have hs2 : w1.heap.size ≤ W2.heap.size := (h2.trans b2).size
  have hs1 := h1.size
  obtain ⟨x0, x1, x2, _, _, _, _⟩ := id k2
  have HW2 := hideP hW2
  clear hP hF c0 c1 c2 c3 hW2
  go_wp2
  simp [bodyPost, results, Tryz.results20, go_sem, d0, d1, d2, x0, x1, x2, g0, g1, g2]
  exact ⟨p2, c2', by simp, by rw [← HW2.out]; exact mx_ne7 HP.out (fun b hb => by have := HF.out b hb; omega) _ _ _, by rw [← HW2.out]; exact Bl.put3 B2 (Nat.le_succ _) _ _ _⟩
end Go.Proofs.YtljmggemdkfbiaaGreat

/- Contracts of root's New, of enclosed numbers (layer 10). Written by genRo.py. -/
namespace Go.Proofs.YtljmggemdkfbiaaGreat
open Go.RowKit
set_option linter.unusedSimpArgs false
set_option linter.unusedVariables false

theorem Tryz.buildRN (q : Option Addr) (n c : Nat) (r d : Int) (p : Option Addr) (N cap : Nat) (u : World) : (Instr.build 50 #[(0, .slice q n c), (1, mV r d p N cap)]).run Tryz.prog u = .ok (sJ q n c r d p N cap) u := by kernel_rfl
set_option maxRecDepth 100000 in
set_option maxHeartbeats 2000000 in
theorem rNewN (n : Nat) (px : Option Addr) (cx : Nat) (x : Nat → En) (p : Option Addr) (N cap : Nat) (f : Nat → Nat → En) (w : World) (hx : Rq 4 cellsN w (.slice px n cx) (linJ n x)) (h : Mx 4 cellsN w n n p N cap f) (h4 : n ≤ 4) :
    Calls Tryz.prog 34 #[.slice px n cx, mV n n p N cap] w fun e w' => ∃ q c p' c', e = .returned (.tuple #[sJ q n c n n p' N c', .bool true]) ∧ (Rw 4 cellsN w' (.slice q n c) (linJ n x) ∧ Mx 4 cellsN w' n n p' N c' (clrN f)) ∧ Bl w w' := by
  have fm : Tryz.prog.follows .mixedOrders = true := by kernel_rfl
  have egC := enters_of Tryz.func72 (by kernel_rfl) rfl
  have hfit := fitJ_dim h.1 h.2.1 h4
  obtain ⟨W, hW⟩ : ∃ W, W = (w.alloc (.cells #[.int .i64 n, .int .i64 n, .slice p N cap] 48)).alloc (.cells #[.slice none 0 0, .int .i64 0, .int .i64 0, .slice none 0 0] 50) := ⟨_, rfl⟩
  have b0 : Bl w W := by rw [hW]; exact ((Bl.refl _).alloc _).alloc _
  have m0 : MBox W w.heap.size n n p N cap := by rw [hW]; exact (MBox.new w _ _ _ _ _ _).later ((Bl.refl _).alloc _)
  have s0 : SBox W (w.heap.size + 1) none 0 0 0 0 none 0 0 := by rw [hW]; have := SBox.new (w.alloc (.cells #[.int .i64 n, .int .i64 n, .slice p N cap] 48)) none 0 0 0 0 none 0 0 50; rw [World.size_alloc] at this; exact this
  have hs : W.heap.size = w.heap.size + 1 + 1 := by rw [hW]; simp
  have HX := hideP hx
  have HMX := hideP h
  have HW := hideP hW
  clear hW hx h
  go_enter Tryz.func34, Tryz.ntmps34
  go_wp2_with fail
  rw [← HW.out]
  refine (rFitsN _ _ _ _ _ _ _ _ _).mono ?_
  rintro e w1 ⟨rfl, h1⟩
  rw [hfit]
  obtain ⟨c0, c1, cm, f0, f1, f2, lt⟩ := m0.later h1
  have b01 := b0.trans h1
  go_wp2_with fail
  refine (tClearN n p N cap f w1 (HMX.out.later b01)).mono ?_
  rintro e w2 ⟨p2, c2, rfl, ⟨hP, hF⟩, h2⟩
  have k2 := MBox.new w2 n n p2 N c2 48
  obtain ⟨W2, hW2⟩ : ∃ W2, W2 = w2.alloc (.cells #[.int .i64 n, .int .i64 n, .slice p2 N c2] 48) := ⟨_, rfl⟩
  have b2 : Bl w2 W2 := by rw [hW2]; exact (Bl.refl _).alloc _
  rw [← hW2] at k2
  have HW2 := hideP hW2
  have B2 : Bl w W2 := b01.trans (h2.trans b2)
  have s2 := s0.later (h1.trans (h2.trans b2))
  have hsz : w.heap.size + 1 + 1 ≤ W2.heap.size := by have := (h1.trans (h2.trans b2)).size; omega
  have HP := hideP (show Mx 4 cellsN W2 n n p2 N c2 (clrN f) from Mx.later hP b2)
  have HF := hideP (show Fresh (w.heap.size + 1 + 1) (.slice p2 N c2) from fresh_le hF (by have := h1.size; omega))
  have CL := hideP (fun u (hu : Bl W2 u) => clone_linN px n cx x u (HX.out.later (B2.trans hu)) (by have := h4; omega))
  clear hW2 hP hF c0 c1 cm f0 f1 f2 lt
  go_wp2_with fail
  rw [← HW2.out]
  refine (wpIn_wide (n := 8)).1 (region_q fm [some 18, some 19, some 20, some 21, none, some 5] (fun j => j == 5) 4 (by kernel_rfl) (by rfl)
    (fun j v u => match j with | 0 => v = .slice px n cx | 1 => ∃ q c, v = .slice q n c ∧ Rw 4 cellsN u (.slice q n c) (linJ n x) ∧ Fresh W2.heap.size (.slice q n c) | 2 => v = mV n n p2 N c2 | 3 => ∃ q c, v = sJ q n c n n p2 N c2 ∧ Rw 4 cellsN u (.slice q n c) (linJ n x) ∧ Fresh W2.heap.size (.slice q n c) | 5 => v = .bool true | _ => False)
    (by
        intro j v u u' hb h
        split at h <;> first | exact h | (obtain ⟨q, c, e, h1, h2⟩ := h; exact ⟨q, c, e, h1.later hb, h2⟩)) (fun vs u0 u => ∃ q c, SBox u (w.heap.size + 1) q n c n n p2 N c2 ∧ Rw 4 cellsN u (.slice q n c) (linJ n x) ∧ Mx 4 cellsN u n n p2 N c2 (clrN f) ∧ Bl w u) ?step ?still ?store ?fin)
  case step =>
    intro j o t act u ho hdt hpu hsz hu hfr hin
    have hj : j < 6 := (Array.getElem?_eq_some_iff.1 ho).1
    obtain ⟨y0, y1, y2, _, _, _, _⟩ := k2.later hu
    rcases (by omega : j = 0 ∨ j = 1 ∨ j = 2 ∨ j = 3 ∨ j = 4 ∨ j = 5) with rfl | rfl | rfl | rfl | rfl | rfl
    · simp only [List.getElem?_toArray, List.getElem?_cons_zero, List.getElem?_cons_succ, Option.some.injEq] at ho
      subst ho
      obtain rfl := Option.some.inj hdt
      have i0 : act.eval (.tmp (0 : Nat)) = .slice px n cx := hfr 0 (by decide)
      exact plain_wp (by intro c h; cases h) (fun _ _ => trivial) (by simp only [execOp, i0, evalC, evalF, evalG]; simp [go_sem]) ⟨_, rfl, rfl, Bl.refl _⟩
    · simp only [List.getElem?_toArray, List.getElem?_cons_zero, List.getElem?_cons_succ, Option.some.injEq] at ho
      subst ho
      obtain rfl := Option.some.inj hdt
      have i18 : (act.eval (.tmp (18 : Nat))) = .slice px n cx := hin ⟨0, .data⟩ (by simp) rfl 18 rfl
      refine enter_wp 72 #[.slice px n cx] (by intro c h; cases h) (fun _ _ => trivial) (by simp only [execOp, evalC, evalF, evalG, resolve, i18, List.map_toArray, List.map_cons, List.map_nil]; simp [invoke, egC, Result.andThen, go_sem]) (by intro h; cases h) (callsIn_wide.2 (CL.out u hu)) ?_
      rintro e w' ⟨q, c, rfl, ⟨hR, hF⟩, hb⟩
      exact ⟨_, rfl, _, rfl, ⟨q, c, rfl, hR, fresh_le hF hu.size⟩, hb⟩
    · simp only [List.getElem?_toArray, List.getElem?_cons_zero, List.getElem?_cons_succ, Option.some.injEq] at ho
      subst ho
      obtain rfl := Option.some.inj hdt
      have i6 : act.eval (.tmp (6 : Nat)) = .pointer (some ⟨w2.heap.size, 0, none⟩) := hfr 6 (by decide)
      exact plain_wp (by intro c h; cases h) (fun _ _ => trivial) (by simp only [execOp, i6, evalC, evalF, evalG]; simp [go_sem, y0, y1, y2]) ⟨_, rfl, rfl, Bl.refl _⟩
    · simp only [List.getElem?_toArray, List.getElem?_cons_zero, List.getElem?_cons_succ, Option.some.injEq] at ho
      subst ho
      obtain rfl := Option.some.inj hdt
      have i19 : ∃ q c, (act.eval (.tmp (19 : Nat))) = .slice q n c ∧ Rw 4 cellsN u (.slice q n c) (linJ n x) ∧ Fresh W2.heap.size (.slice q n c) := hin ⟨1, .data⟩ (by simp) rfl 19 rfl
      have i20 : (act.eval (.tmp (20 : Nat))) = mV n n p2 N c2 := hin ⟨2, .data⟩ (by simp) rfl 20 rfl
      obtain ⟨q0, c0', e1, hq, hf⟩ := i19
      exact plain_wp (by intro c h; cases h) (fun _ _ => trivial) (by simp only [execOp, List.map_toArray, List.map_cons, List.map_nil, e1, i20]; simp [Tryz.buildRN, Result.andThen, go_sem]) ⟨_, rfl, ⟨q0, c0', rfl, hq, hf⟩, Bl.refl _⟩
    · simp only [List.getElem?_toArray, List.getElem?_cons_zero, List.getElem?_cons_succ, Option.some.injEq] at ho
      subst ho
      cases hdt
    · cases hpu
  case still =>
    intro j o t act u0 u ho hdt hpu hsz hu hfr hin
    have hj : j < 6 := (Array.getElem?_eq_some_iff.1 ho).1
    obtain ⟨y0, y1, y2, _, _, _, _⟩ := k2.later hu
    rcases (by omega : j = 0 ∨ j = 1 ∨ j = 2 ∨ j = 3 ∨ j = 4 ∨ j = 5) with rfl | rfl | rfl | rfl | rfl | rfl
    · cases hpu
    · cases hpu
    · cases hpu
    · cases hpu
    · cases hpu
    · simp only [List.getElem?_toArray, List.getElem?_cons_zero, List.getElem?_cons_succ, Option.some.injEq] at ho
      subst ho
      obtain rfl := Option.some.inj hdt
      exact plain_wp (by intro c h; cases h) (fun _ _ => trivial) (by simp only [execOp, evalC, evalF, evalG]; simp [go_sem]) ⟨_, rfl, rfl, rfl⟩
  case store =>
    intro o act u vs ho hsz hu hfr hin
    simp only [List.getElem?_toArray, List.getElem?_cons_zero, List.getElem?_cons_succ, Option.some.injEq] at ho
    subst ho
    have i4 : act.eval (.tmp (4 : Nat)) = .pointer (some ⟨w.heap.size + 1, 0, none⟩) := hfr 4 (by decide)
    obtain ⟨i21, k21⟩ : act.eval (.tmp (21 : Nat)) = vs 3 ∧ (∃ q c, (vs 3) = sJ q n c n n p2 N c2 ∧ Rw 4 cellsN u (.slice q n c) (linJ n x) ∧ Fresh W2.heap.size (.slice q n c)) := hin 3 21 rfl rfl
    obtain ⟨q0, c0', e1, hq, hf⟩ := k21
    rw [e1] at i21
    obtain ⟨c0, c1, c2', c3, f0, f1, f2, f3, lt⟩ := id (s2.later hu)
    exact skip_wp (by intro c h; cases h) (fun _ _ => trivial) (by simp only [execOp, i4, i21]; simp [go_sem, c0, c1, c2', c3, f0, f1, f2, f3]) ⟨rfl, q0, c0', (s2.later hu).fill _ _ _ _ _ _ _ _, rw_put4N hq (fresh_le hf (by omega)) _ _ _ _, mx_put4 (HP.out.later hu) HF.out _ _ _ _, Bl.put4 (B2.trans hu) (Nat.le_succ _) _ _ _ _⟩
  case fin =>
    intro vs vb u0 u hu hin hps
    have a0 := hin 0 18 rfl
    have a1 := hin 1 19 rfl
    have a2 := hin 2 20 rfl
    have a3 := hin 3 21 rfl
    have a5 := hin 5 5 rfl
    simp only [putL, Act.put, List.setIfInBounds_toArray, List.set_cons_zero, List.set_cons_succ, Nat.zero_add, Nat.reduceAdd, Nat.reduceBEq, Bool.or_false, Bool.or_true, Bool.false_or, Bool.true_or, Bool.false_eq_true, if_false, if_true, reduceIte, Nat.reduceEqDiff, beq_self_eq_true, Bool.or_self] at a0 a1 a2 a3 a5 ⊢
    rw [if_pos (by decide)] at hps
    simp only [a0, a2, a5]
    obtain ⟨q, c, sx, hR, hM, hbw⟩ := hps
    clear a1 a3
    have HR := hideP hR
    have HM := hideP hM
    clear hR hM
    obtain ⟨c0, c1, c2', c3, f0, f1, f2, f3, lt⟩ := sx
    go_wp2
    simp [bodyPost, results, Tryz.results34, go_sem, c0, c1, c2', c3]
    exact ⟨q, c, p2, c2, by simp, ⟨HR.out, HM.out⟩, hbw⟩
end Go.Proofs.YtljmggemdkfbiaaGreat

/- Contracts of Clone, Row, All, New where what is told lies in a block of its own that may be changed, of enclosed numbers (layer 8). Written by genHu.py. -/
namespace Go.Proofs.YtljmggemdkfbiaaGreat
open Go.RowKit Go.Shelf
set_option linter.unusedSimpArgs false
set_option linter.unusedVariables false
attribute [local go_sem] Oper.semAt_some
set_option maxHeartbeats 1000000 in
theorem vCloneZN (v : Value) (xs : List En) (w : World) (h : Rq 4 cellsN w v xs) (hl : xs.length ≤ 1000000) (hne : xs ≠ []) :
    Calls Tryz.prog 72 #[v] w fun e w' => ∃ u, e = .returned u ∧ RwZ 4 cellsN w' w.heap.size u xs ∧ Bl w w' := by
  have n0 := Tryz.nil0N
  have n1 := Tryz.nil1N
  obtain ⟨i0, hi, hz0, hz1, hz2⟩ := info_parts Tryz.info_N
  rcases h with ⟨p, cap, rfl, rfl, hpn⟩ | ⟨b, o, cap, rfl, hc, hb, hx⟩
  · exact absurd rfl hne
  · have HX := hideP hx
    clear hx n0
    go_enter Tryz.func72, Tryz.ntmps72
    go_wp2_with (at_builtin; refine wpList_append_own _ rfl _ _ 46 rfl w.heap.size 52 i0 (.agg #[.int .i64 0, .int .i64 0, .int .i64 0, .bool false]) 4 32 Tryz.underlying46 hi hz0 hz1 hz2 rfl (by decide) _ 0 [] rfl (World.ownsRow_made w #[] 0 (Nat.le_refl _) (by decide) rfl) ⟨b, o, none⟩ xs.length cap (xs.flatMap cellsN) rfl (flat_len cellsN_len xs) (flat_cells cellsN_len ((Rw_cells_later HX.out hb ((Bl.refl _).alloc _)))) (flat_one oneN_cells xs) (by unfold maxLen; omega) (by omega) (by simp) ?_; intro v' w1 hown' hgrow _)
    have R := hideP (RwZ.of_own (xs := xs) cellsN_len (by simpa using hown') hne)
    have hB : Bl w w1 := Below.grown (Below.alloc (Bl.refl w) (Nat.le_refl _) _) hgrow (by simp) (fun k e => by cases e; exact Nat.le_refl _)
    clear hown' hgrow
    go_wp2
    go_ret
    exact ⟨_, rfl, R.out, hB⟩
theorem mNewZN (r c : Int) (p : Option Addr) (n cap : Nat) (xs : List En) (w : World) (hr : Rq 4 cellsN w (.slice p n cap) xs) (h : fitB r c n = true) (hn : xs.length = n) :
    Calls Tryz.prog 107 #[.int .i64 r, .int .i64 c, .slice p n cap] w fun e w' => ∃ p' cap', e = .returned (.tuple #[mV r c p' n cap', .bool true]) ∧ RwZ 4 cellsN w' w.heap.size (.slice p' n cap') xs ∧ Bl w w' := by
  have hl : n ≤ 1000000 := by obtain ⟨R, C, _, _, hd, rfl⟩ := fitB_nat h; have := hd.lt; omega
  obtain ⟨W, hW⟩ : ∃ W, W = w.alloc (.cells #[.int .i64 0, .int .i64 0, .slice none 0 0] 48) := ⟨_, rfl⟩
  have b0 : Bl w W := by rw [hW]; exact (Bl.refl _).alloc _
  have x0 : MBox W w.heap.size 0 0 none 0 0 := by rw [hW]; exact MBox.new w 0 0 none 0 0 _
  have hsz : W.heap.size = w.heap.size + 1 := by rw [hW]; simp
  have hne : xs ≠ [] := by
    obtain ⟨R, C, _, _, hd, e⟩ := fitB_nat h
    have := Mx.pos hd e
    intro e2
    rw [e2] at hn
    simp at hn
    omega
  have CL := hideP (vCloneZN (.slice p n cap) xs W (hr.later b0) (by omega) hne)
  have HW := hideP hW
  clear hW hr
  go_enter Tryz.func107, Tryz.ntmps107
  go_wp2_with fail
  rw [← HW.out]
  refine (fits_any _ _ _ _).mono ?_
  rintro e w1 ⟨rfl, rfl⟩
  rw [h]
  go_wp2_with fail
  refine CL.out.mono ?_
  rintro e w2 ⟨u, rfl, hR, h2⟩
  obtain ⟨p', cap', rfl, _, _⟩ := hR.rw.cut
  rw [hn] at hR ⊢
  have HR := hideP (hR.base (lo' := w.heap.size + 1) (by omega))
  obtain ⟨c0, c1, c2, f0, f1, f2, lt⟩ := x0.later h2
  clear hR CL
  go_wp2
  simp [bodyPost, results, Tryz.results107, go_sem, c0, c1, c2]
  exact ⟨p', cap', ⟨rfl, rfl⟩, (((HR.out.set _ (Nat.lt_succ_self _)).set _ (Nat.lt_succ_self _)).set _ (Nat.lt_succ_self _)).base (by omega), Bl.put3 (b0.trans h2) (Nat.le_refl _) _ _ _⟩
end Go.Proofs.YtljmggemdkfbiaaGreat

/- Contracts of tri's Root, of enclosed numbers (layer 7). Written by genTr.py. -/
namespace Go.Proofs.YtljmggemdkfbiaaGreat
open Go.RowKit
set_option linter.unusedSimpArgs false
set_option linter.unusedVariables false

end Go.Proofs.YtljmggemdkfbiaaGreat

/- Contracts of env.beside, Encloses (layer 3), and of the document's Encloses. -/
namespace Go.Proofs.YtljmggemdkfbiaaGreat
open Go.RowKit
set_option linter.unusedSimpArgs false
set_option linter.unusedVariables false

theorem tdiv_floor (n d : Int) (hd : 0 < d) : (n.tmod d < 0 ∧ n.tdiv d - 1 = n / d ∧ n.tmod d + d = n % d) ∨ (0 ≤ n.tmod d ∧ n.tdiv d = n / d ∧ n.tmod d = n % d) := by
  have e := Int.mul_tdiv_add_tmod n d
  have l1 := Int.tmod_lt_of_pos n hd
  have l2 : -d < n.tmod d := by
    have := Int.lt_tmod_of_pos n hd
    omega
  rcases Int.lt_or_le (n.tmod d) 0 with h | h
  · left
    have u := (Int.ediv_emod_unique hd (a := n) (q := n.tdiv d - 1) (r := n.tmod d + d)).2 ⟨by rw [Int.mul_sub, Int.mul_one]; omega, by omega, by omega⟩
    exact ⟨h, u.1.symm, u.2.symm⟩
  · right
    have u := (Int.ediv_emod_unique hd (a := n) (q := n.tdiv d) (r := n.tmod d)).2 ⟨by omega, h, l1⟩
    exact ⟨h, u.1.symm, u.2.symm⟩
/-- The number of units that is not above n by d, and the one that is not below it; whether both are told. -/
def bsB (n d : Int) : Bool := foB (n / d)
def bsL (n d : Int) : Int := toN (n * 16777216 / d) (bsB n d)
def bsH (n d : Int) : Int := toN (-(-(n * 16777216) / d)) (bsB n d)
theorem up_floor (x d : Int) (hd : 0 < d) : -(-x / d) = if 0 < x % d then x / d + 1 else x / d := by
  have a1 := Int.mul_ediv_add_emod x d
  have a2 := Int.emod_nonneg x (show d ≠ 0 by omega)
  have a3 := Int.emod_lt_of_pos x hd
  generalize x / d = q at *
  generalize x % d = r at *
  by_cases h : 0 < r
  · rw [if_pos h]
    have hn := (Int.ediv_emod_unique hd (a := -x) (q := -q - 1) (r := d - r)).2 ⟨by rw [Int.mul_sub, Int.mul_neg, Int.mul_one]; omega, by omega, by omega⟩
    rw [hn.1]; omega
  · rw [if_neg h]
    have hn := (Int.ediv_emod_unique hd (a := -x) (q := -q) (r := 0)).2 ⟨by rw [Int.mul_neg]; omega, by omega, hd⟩
    rw [hn.1]; omega
theorem units_floor (n d : Int) (hd : 0 < d) : n * 16777216 / d = n / d * 16777216 + n % d * 16777216 / d ∧ n * 16777216 % d = n % d * 16777216 % d := by
  have e : n * 16777216 = n % d * 16777216 + n / d * 16777216 * d := by
    have := Int.mul_ediv_add_emod n d
    rw [Int.mul_right_comm, Int.mul_comm (n / d) d, ← Int.add_mul]
    congr 1
    omega
  rw [e]
  constructor
  · rw [Int.add_mul_ediv_right _ _ (by omega), Int.add_comm]
  · rw [Int.add_mul_emod_self_right]

set_option maxHeartbeats 1000000 in
theorem beside_any (n d : Int) (w : World) (hd : 0 < d) (hn : rightB n = true) (hr : rightB d = true) :
    Calls Tryz.prog 83 #[.int .i64 n, .int .i64 d] w fun e w' => e = .returned (.tuple #[.int .i64 (bsL n d), .int .i64 (bsH n d), .bool (bsB n d)]) ∧ Bl w w' := by
  have kn := rightB_iff.1 hn
  have kd := rightB_iff.1 hr
  have uf := units_floor n d hd
  have ue := up_floor (n * 16777216) d hd
  have r0 := Int.emod_nonneg n (show d ≠ 0 by omega)
  have r1 := Int.emod_lt_of_pos n hd
  have tf := tdiv_floor n d hd
  have q0 : -4611686018427387904 ≤ n / d ∧ n / d ≤ 4611686018427387903 := by
    have := Int.mul_ediv_add_emod n d
    constructor
    · rcases Int.lt_or_le (n / d) (-4611686018427387904) with h | h
      · have := Int.mul_le_mul_of_nonneg_left (show n / d ≤ -4611686018427387905 by omega) (show 0 ≤ d by omega)
        omega
      · exact h
    · exact Int.le_trans (Int.ediv_le_ediv hd kn.2) (Int.ediv_le_self _ (by omega))
  unfold bsL bsH
  rw [ue, uf.1, uf.2]
  have F := fof_any (n / d)
  unfold foN at F
  have e1 : bsB n d = foB (n / d) := rfl
  rw [e1]
  clear ue uf e1 hn hr
  generalize n / d = q at *
  generalize n % d = r at *
  have hr2 : r * 16777216 / 18446744073709551616 < d := by omega
  have M := hideP (mul64_any r 16777216 ⟨r0, by omega⟩ ⟨by decide, by decide⟩)
  have D := hideP (fun w => div64_any (r * 16777216) d w (by omega) ⟨by omega, by omega⟩ hr2)
  have p0 : 0 ≤ r * 16777216 / d ∧ r * 16777216 / d < 16777216 := by
    refine ⟨Int.ediv_nonneg (by omega) (by omega), Int.ediv_lt_of_lt_mul hd ?_⟩
    rw [Int.mul_comm]
    exact Int.mul_lt_mul_of_pos_left r1 (by decide)
  have p1 := Int.emod_nonneg (r * 16777216) (show d ≠ 0 by omega)
  have hF0 : foB q = true → -67108864 ≤ q ∧ q ≤ 67108864 := fun h => by simpa [foB] using h
  have HF := hideP F
  clear F hr2
  generalize r * 16777216 / d = P at *
  generalize r * 16777216 % d = R at *
  cases hq : foB q
  · rw [hq] at HF
    simp only [toN_f] at HF ⊢
    clear hF0 hq
    go_enter Tryz.func83, Tryz.ntmps83
    go_wp2_with fail
    go_quiet (fail)
    generalize n.tdiv d = T at *
    generalize n.tmod d = U at *
    have hw : Bl w (w.drewN nq) := SmallBl _ _ _
    have HW := hideP hw
    clear hw
    have tf' : (r - d < 0 ∧ q + 1 = T ∧ r - d = U) ∨ (0 ≤ r ∧ q = T ∧ r = U) := by
      rcases tf with ⟨t1, t2, t3⟩ | ⟨t1, t2, t3⟩
      · left; omega
      · right; omega
    clear tf
    rcases tf' with ⟨t1, rfl, rfl⟩ | ⟨t1, rfl, rfl⟩
    all_goals
      go_wp2_with fail
      refine (HF.out _).mono ?_
      rintro e w1 ⟨rfl, h1⟩
      go_wp2
      go_ret3
      exact ⟨rfl, HW.out.trans h1⟩
  rw [hq] at HF
  obtain ⟨q1, q2⟩ := hF0 hq
  simp only [toN_t] at HF ⊢
  clear hF0 hq
  by_cases hR : 0 < R
  · rw [if_pos hR]
    go_enter Tryz.func83, Tryz.ntmps83
    go_wp2_with fail
    go_quiet (fail)
    generalize n.tdiv d = T at *
    generalize n.tmod d = U at *
    have hw : Bl w (w.drewN nq) := SmallBl _ _ _
    have HW := hideP hw
    clear hw
    have tf' : (r - d < 0 ∧ q + 1 = T ∧ r - d = U) ∨ (0 ≤ r ∧ q = T ∧ r = U) := by
      rcases tf with ⟨t1, t2, t3⟩ | ⟨t1, t2, t3⟩
      · left; omega
      · right; omega
    clear tf
    rcases tf' with ⟨t1, rfl, rfl⟩ | ⟨t1, rfl, rfl⟩
    all_goals
      go_wp2_with fail
      refine (HF.out _).mono ?_
      rintro e w1 ⟨rfl, h1⟩
      go_wp2_with fail
      refine (M.out _).mono ?_
      rintro e w2 ⟨rfl, rfl⟩
      go_wp2_with fail
      refine (D.out _).mono ?_
      rintro e w3 ⟨rfl, h3⟩
      go_wp2
      go_ret3
      exact ⟨rfl, (HW.out.trans h1).trans h3⟩
  · rw [if_neg hR]
    go_enter Tryz.func83, Tryz.ntmps83
    go_wp2_with fail
    go_quiet (fail)
    generalize n.tdiv d = T at *
    generalize n.tmod d = U at *
    have hw : Bl w (w.drewN nq) := SmallBl _ _ _
    have HW := hideP hw
    clear hw
    have tf' : (r - d < 0 ∧ q + 1 = T ∧ r - d = U) ∨ (0 ≤ r ∧ q = T ∧ r = U) := by
      rcases tf with ⟨t1, t2, t3⟩ | ⟨t1, t2, t3⟩
      · left; omega
      · right; omega
    clear tf
    rcases tf' with ⟨t1, rfl, rfl⟩ | ⟨t1, rfl, rfl⟩
    all_goals
      go_wp2_with fail
      refine (HF.out _).mono ?_
      rintro e w1 ⟨rfl, h1⟩
      go_wp2_with fail
      refine (M.out _).mono ?_
      rintro e w2 ⟨rfl, rfl⟩
      go_wp2_with fail
      refine (D.out _).mono ?_
      rintro e w3 ⟨rfl, h3⟩
      go_wp2
      go_ret3
      exact ⟨rfl, (HW.out.trans h1).trans h3⟩

/-- Is n by d enclosed (P3.2)? -/
def withinB (a : En) (n d : Int) : Bool := decide (a.l * d ≤ n * 16777216) && decide (n * 16777216 ≤ a.h * d)
def enclB (a : En) (n d : Int) : Bool := fineB a && decide (1 ≤ d) && rightB n && rightB d && withinB a n d
theorem bs_within (a : En) (n d : Int) (ha : fineB a = true) (hd : 0 < d) : (bsB n d && (decide (a.l ≤ bsL n d) && decide (bsH n d ≤ a.h))) = withinB a n d := by
  obtain ⟨_, _, _, f1, f2⟩ := fineB_iff.1 ha
  have g1 := frB_iff.1 f1
  have g2 := frB_iff.1 f2
  unfold bsL bsH withinB
  cases hb : bsB n d
  · rw [Bool.false_and, eq_comm, Bool.and_eq_false_iff]
    have hq : n / d < -67108864 ∨ 67108864 < n / d := by
      unfold bsB foB at hb
      rw [Bool.and_eq_false_iff] at hb
      rcases hb with h | h
      · have := of_decide_eq_false h; omega
      · have := of_decide_eq_false h; omega
    have e := Int.mul_ediv_add_emod n d
    have r0 := Int.emod_nonneg n (show d ≠ 0 by omega)
    have r1 := Int.emod_lt_of_pos n hd
    rcases hq with h | h
    · left
      apply decide_eq_false
      intro hc
      have k1 := Int.mul_le_mul_of_nonneg_left (show n / d ≤ -67108865 by omega) (show 0 ≤ d by omega)
      have k2 := Int.mul_le_mul_of_nonneg_right g1.1 (show 0 ≤ d by omega)
      omega
    · right
      apply decide_eq_false
      intro hc
      have k1 := Int.mul_le_mul_of_nonneg_left (show 67108865 ≤ n / d by omega) (show 0 ≤ d by omega)
      have k2 := Int.mul_le_mul_of_nonneg_right g2.2 (show 0 ≤ d by omega)
      omega
  · rw [Bool.true_and, toN_t, toN_t]
    have i1 : a.l ≤ n * 16777216 / d ↔ a.l * d ≤ n * 16777216 := Int.le_ediv_iff_mul_le hd
    have i2 : -(-(n * 16777216) / d) ≤ a.h ↔ n * 16777216 ≤ a.h * d := by
      have : -a.h ≤ -(n * 16777216) / d ↔ -a.h * d ≤ -(n * 16777216) := Int.le_ediv_iff_mul_le hd
      rw [Int.neg_mul] at this
      constructor
      · intro h; have := this.1 (by omega); omega
      · intro h; have := this.2 (by omega); omega
    rw [decide_eq_decide.2 i1, decide_eq_decide.2 i2]

set_option maxHeartbeats 1000000 in
theorem encl_any (a : En) (n d : Int) (w : World) :
    Calls Tryz.prog 39 #[enV a, .int .i64 n, .int .i64 d] w fun e w' => e = .returned (.bool (enclB a n d)) ∧ Bl w w' := by
  obtain ⟨W, hW⟩ : ∃ W, W = w.alloc (.cells #[.int .i64 a.v, .int .i64 a.l, .int .i64 a.h, .bool a.bad] 52) := ⟨_, rfl⟩
  have b0 : Bl w W := by rw [hW]; exact (Bl.refl _).alloc _
  have x0 : Box W w.heap.size a := by rw [hW]; exact Box.new w a _
  have c1 := x0.c1
  have HW := hideP hW
  have HX := hideP x0
  clear hW x0
  have F := fine_any a
  unfold enclB
  cases hf : fineB a
  · rw [hf] at F
    have HF := hideP F
    clear F
    go_enter Tryz.func39, Tryz.ntmps39
    go_wp2_with fail
    rw [← HW.out]
    refine (HF.out _).mono ?_
    rintro e w1 ⟨rfl, h1⟩
    go_wp2
    go_ret
    exact ⟨rfl, b0.trans h1⟩
  rw [hf] at F
  have HF := hideP F
  clear F
  have ways : (d ≤ 0) ∨ (0 < d ∧ 4611686018427387903 < d) ∨ (0 < d ∧ d ≤ 4611686018427387903 ∧ 4611686018427387903 < n) ∨ (0 < d ∧ d ≤ 4611686018427387903 ∧ n ≤ 4611686018427387903 ∧ n < -4611686018427387903) ∨
      (0 < d ∧ d ≤ 4611686018427387903 ∧ n ≤ 4611686018427387903 ∧ -4611686018427387903 ≤ n) := by omega
  have no : ∀ x : Bool, (d ≤ 0 ∨ 4611686018427387903 < d ∨ 4611686018427387903 < n ∨ n < -4611686018427387903) → (true && decide (1 ≤ d) && rightB n && rightB d && x) = false := by
    intro x h
    rw [Bool.true_and]
    rcases h with h | h | h | h
    · rw [decide_eq_false (by omega)]; rfl
    · have : rightB d = false := by unfold rightB; rw [decide_eq_false (show ¬ d ≤ 4611686018427387903 by omega), Bool.and_false]
      rw [this, Bool.and_false, Bool.false_and]
    · have : rightB n = false := by unfold rightB; rw [decide_eq_false (show ¬ n ≤ 4611686018427387903 by omega), Bool.and_false]
      rw [this, Bool.and_false, Bool.false_and, Bool.false_and]
    · have : rightB n = false := by unfold rightB; rw [decide_eq_false (show ¬ -4611686018427387903 ≤ n by omega), Bool.false_and]
      rw [this, Bool.and_false, Bool.false_and, Bool.false_and]
  rcases ways with k | ⟨k, k2⟩ | ⟨k, k2, k3⟩ | ⟨k, k2, k3, k4⟩ | ⟨k, k2, k3, k4⟩
  · rw [no _ (.inl k)]
    clear no
    go_enter Tryz.func39, Tryz.ntmps39
    go_wp2_with fail
    rw [← HW.out]
    refine (HF.out _).mono ?_
    rintro e w1 ⟨rfl, h1⟩
    go_wp2
    go_ret
    exact ⟨rfl, b0.trans h1⟩
  · rw [no _ (.inr (.inl k2))]
    clear no
    go_enter Tryz.func39, Tryz.ntmps39
    go_wp2_with fail
    rw [← HW.out]
    refine (HF.out _).mono ?_
    rintro e w1 ⟨rfl, h1⟩
    go_wp2
    go_ret
    exact ⟨rfl, b0.trans h1⟩
  · rw [no _ (.inr (.inr (.inl k3)))]
    clear no
    go_enter Tryz.func39, Tryz.ntmps39
    go_wp2_with fail
    rw [← HW.out]
    refine (HF.out _).mono ?_
    rintro e w1 ⟨rfl, h1⟩
    go_wp2
    go_ret
    exact ⟨rfl, b0.trans h1⟩
  · rw [no _ (.inr (.inr (.inr k4)))]
    clear no
    go_enter Tryz.func39, Tryz.ntmps39
    go_wp2_with fail
    rw [← HW.out]
    refine (HF.out _).mono ?_
    rintro e w1 ⟨rfl, h1⟩
    go_wp2
    go_ret
    exact ⟨rfl, b0.trans h1⟩
  · clear no
    have rn : rightB n = true := rightB_eq (by omega)
    have rd : rightB d = true := rightB_eq (by omega)
    have S := fun w => beside_any n d w k rn rd
    have e := bs_within a n d hf k
    rw [rn, rd, decide_eq_true (show 1 ≤ d by omega), ← e]
    clear rn rd e hf
    generalize bsB n d = ok at *
    generalize bsL n d = x at *
    generalize bsH n d = y at *
    have HS := hideP S
    clear S
    cases ok
    · go_enter Tryz.func39, Tryz.ntmps39
      go_wp2_with fail
      rw [← HW.out]
      refine (HF.out _).mono ?_
      rintro e w1 ⟨rfl, h1⟩
      go_wp2_with fail
      refine (HS.out _).mono ?_
      rintro e w2 ⟨rfl, h2⟩
      go_wp2
      go_ret
      exact ⟨rfl, (b0.trans h1).trans h2⟩
    · by_cases kl : a.l ≤ x
      · rw [decide_eq_true kl]
        go_enter Tryz.func39, Tryz.ntmps39
        go_wp2_with fail
        rw [← HW.out]
        refine (HF.out _).mono ?_
        rintro e w1 ⟨rfl, h1⟩
        go_wp2_with fail
        refine (HS.out _).mono ?_
        rintro e w2 ⟨rfl, h2⟩
        have b1 := (HX.out.later (h1.trans h2)).c1
        have b2 := (HX.out.later (h1.trans h2)).c2
        go_wp2
        go_ret
        exact ⟨rfl, (b0.trans h1).trans h2⟩
      · rw [decide_eq_false kl]
        go_enter Tryz.func39, Tryz.ntmps39
        go_wp2_with fail
        rw [← HW.out]
        refine (HF.out _).mono ?_
        rintro e w1 ⟨rfl, h1⟩
        go_wp2_with fail
        refine (HS.out _).mono ?_
        rintro e w2 ⟨rfl, h2⟩
        have b1 := (HX.out.later (h1.trans h2)).c1
        have b2 := (HX.out.later (h1.trans h2)).c2
        go_wp2
        go_ret
        exact ⟨rfl, (b0.trans h1).trans h2⟩

end Go.Proofs.YtljmggemdkfbiaaGreat

/- What the document fixes of a third (layer 3). -/
namespace Go.Proofs.YtljmggemdkfbiaaGreat
open Go.RowKit
set_option linter.unusedSimpArgs false
set_option linter.unusedVariables false

end Go.Proofs.YtljmggemdkfbiaaGreat

/- The mathematics of the laws of layer 3. -/
namespace Go.Proofs.YtljmggemdkfbiaaGreat
open Go.RowKit
set_option linter.unusedSimpArgs false
set_option linter.unusedVariables false

theorem low2 {N : Int → Int → Int → Int} (hN : Bd N) (x y : Int) : lowF N [(x, y), (x, y)] = N x y 1 := by
  have := hN x y 1
  simp only [lowF, List.foldl_cons, List.foldl_nil]; omega
theorem low4 {N : Int → Int → Int → Int} (hN : Bd N) (x y : Int) : lowF N [(x, y), (x, y), (x, y), (x, y)] = N x y 1 := by
  have := hN x y 1
  simp only [lowF, List.foldl_cons, List.foldl_nil]; omega
/-- A list of one pair, twice or four times. -/
def Same (ps : List (Int × Int)) (x y : Int) : Prop := ps = [(x, y), (x, y)] ∨ ps = [(x, y), (x, y), (x, y), (x, y)]
theorem Same.low {ps : List (Int × Int)} {x y : Int} (h : Same ps x y) {N : Int → Int → Int → Int} (hN : Bd N) : lowF N ps = N x y 1 := by
  rcases h with rfl | rfl
  · exact low2 hN x y
  · exact low4 hN x y
theorem Same.ok {ps : List (Int × Int)} {x y : Int} (h : Same ps x y) (B : Int → Int → Int → Bool) : okF B ps = (B x y 1 && B x y 2) := by
  rcases h with rfl | rfl <;> simp [okF]

/-- out is Bad, or it holds what 'inn' holds. -/
def With (inn out : En) : Prop := out.bad = true ∨ (inn.bad = false ∧ out.l ≤ inn.l ∧ inn.h ≤ out.h)
end Go.Proofs.YtljmggemdkfbiaaGreat

/- Enclosed numbers, of fractions of whole numbers: what is told of enclosed numbers encloses what is told of the fractions that they enclose. Mathematics alone. -/
namespace Go.Proofs.YtljmggemdkfbiaaGreat
open Go.RowKit
set_option linter.unusedSimpArgs false
set_option linter.unusedVariables false

/-- n by d (d above 0) lies between the bounds. -/
def QIn (a : En) (n d : Int) : Prop := a.l * d ≤ n * 16777216 ∧ n * 16777216 ≤ a.h * d
/-- It is Bad, or it may be, and encloses n by d. -/
def Enq (a : En) (n d : Int) : Prop := a = wrongE ∨ (fineB a = true ∧ QIn a n d)
theorem cancel_pos {x y k : Int} (hk : 0 < k) (h : x * k ≤ y * k) : x ≤ y := Int.le_of_mul_le_mul_right h hk
/-- The same fraction, by other parts. -/
theorem QIn.same {a : En} {n d n' d' : Int} (h : QIn a n d) (hd : 0 < d) (hd' : 0 < d') (e : n * d' = n' * d) : QIn a n' d' := by
  obtain ⟨h1, h2⟩ := h
  constructor
  · refine cancel_pos hd ?_
    have := Int.mul_le_mul_of_nonneg_right h1 (Int.le_of_lt hd')
    rw [show a.l * d' * d = a.l * d * d' by rw [Int.mul_right_comm], show n' * 16777216 * d = n * 16777216 * d' by rw [Int.mul_right_comm, ← e, Int.mul_right_comm]]
    exact this
  · refine cancel_pos hd ?_
    have := Int.mul_le_mul_of_nonneg_right h2 (Int.le_of_lt hd')
    rw [show a.h * d' * d = a.h * d * d' by rw [Int.mul_right_comm], show n' * 16777216 * d = n * 16777216 * d' by rw [Int.mul_right_comm, ← e, Int.mul_right_comm]]
    exact this
theorem Enq.same {a : En} {n d n' d' : Int} (h : Enq a n d) (hd : 0 < d) (hd' : 0 < d') (e : n * d' = n' * d) : Enq a n' d' := by
  rcases h with h | ⟨f, q⟩
  · exact .inl h
  · exact .inr ⟨f, q.same hd hd' e⟩
end Go.Proofs.YtljmggemdkfbiaaGreat

/- Whole numbers as points: their sums, products and dots, enclosed (layer 5's laws). Mathematics alone. -/
namespace Go.Proofs.YtljmggemdkfbiaaGreat
open Go.RowKit
set_option linter.unusedSimpArgs false
set_option linter.unusedVariables false

/-- The point of a whole number. -/
def itN (n : Int) : En := ⟨n * 16777216, n * 16777216, n * 16777216, false⟩
end Go.Proofs.YtljmggemdkfbiaaGreat

/- Enclosed numbers beside fractions: the same steps of both; what is told of enclosed numbers encloses what is told of fractions, where that may be one. Mathematics alone. -/
namespace Go.Proofs.YtljmggemdkfbiaaGreat
open Go.RowKit
set_option linter.unusedSimpArgs false
set_option linter.unusedVariables false

/-- It encloses the fraction, if that may be one; or it is Bad. -/
def EncF (e : En) (f : Fr) : Prop := fineR f = true → Enq e f.n f.d
/-- What env.Encloses asks, of a fraction. -/
theorem EncF.told {e : En} {f : Fr} (h : EncF e f) (hf : fineR f = true) (hb : e ≠ wrongE) : fineB e = true ∧ e.l * f.d ≤ f.n * 16777216 ∧ f.n * 16777216 ≤ e.h * f.d := by
  rcases h hf with h | ⟨h1, h2⟩
  · exact absurd h hb
  · exact ⟨h1, h2.1, h2.2⟩
end Go.Proofs.YtljmggemdkfbiaaGreat

/- Roots of squares, and what is solved, of lower triangles (layer 7). Mathematics alone. -/
namespace Go.Proofs.YtljmggemdkfbiaaGreat
open Go.RowKit
set_option linter.unusedSimpArgs false
set_option linter.unusedVariables false

end Go.Proofs.YtljmggemdkfbiaaGreat

/- A fold of enclosed numbers encloses that of fractions, with the same signs; a triangle of whole numbers folds to itself (layer 8, HouseTwice). Mathematics alone. -/
namespace Go.Proofs.YtljmggemdkfbiaaGreat
open Go.RowKit
set_option linter.unusedSimpArgs false
set_option linter.unusedVariables false

end Go.Proofs.YtljmggemdkfbiaaGreat

/- Enclosed numbers beside any rational numbers (layer 8 on: where roots are no fractions). Mathematics alone. -/
namespace Go.Proofs.YtljmggemdkfbiaaGreat
open Go.RowKit
set_option linter.unusedSimpArgs false
set_option linter.unusedVariables false

theorem den_pos (q : Rat) : (0 : Int) < q.den := by have := q.den_pos; omega
end Go.Proofs.YtljmggemdkfbiaaGreat

/- The root of an enclosed number encloses rational numbers whose squares lie as near as one likes (layer 8, HouseSquares). Mathematics alone. -/
namespace Go.Proofs.YtljmggemdkfbiaaGreat
open Go.RowKit
set_option linter.unusedSimpArgs false
set_option linter.unusedVariables false

end Go.Proofs.YtljmggemdkfbiaaGreat

/- A fold of enclosed numbers whose triangle is fine: the triangle's square encloses the square of what was folded, though roots are no fractions (layer 8, HouseSquares). Mathematics alone. -/
namespace Go.Proofs.YtljmggemdkfbiaaGreat
open Go.RowKit
set_option linter.unusedSimpArgs false
set_option linter.unusedVariables false

end Go.Proofs.YtljmggemdkfbiaaGreat

/- A triangle of whole numbers with a diagonal above 0, folded, in fractions (layer 8, HouseTwice). Mathematics alone. -/
namespace Go.Proofs.YtljmggemdkfbiaaGreat
open Go.RowKit
set_option linter.unusedSimpArgs false
set_option linter.unusedVariables false

end Go.Proofs.YtljmggemdkfbiaaGreat

/- HouseTwice: an enclosed triangle of whole numbers with a diagonal above 0 folds to what encloses it. Mathematics alone. -/
namespace Go.Proofs.YtljmggemdkfbiaaGreat
open Go.RowKit
set_option linter.unusedSimpArgs false
set_option linter.unusedVariables false

end Go.Proofs.YtljmggemdkfbiaaGreat

/- Contracts of house's away, less, of enclosed numbers (layer 8). Written by genHu.py. -/
namespace Go.Proofs.YtljmggemdkfbiaaGreat
open Go.RowKit Go.Shelf
set_option linter.unusedSimpArgs false
set_option linter.unusedVariables false
attribute [local go_sem] Oper.semAt_some

end Go.Proofs.YtljmggemdkfbiaaGreat
