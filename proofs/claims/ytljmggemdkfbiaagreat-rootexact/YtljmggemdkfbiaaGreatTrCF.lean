/- Contract of tri's Square, of fractions (layer 7). Written by genTr.py. -/
import Derived.Test.YtljmggemdkfbiaaGreatTrBF
import Derived.Test.YtljmggemdkfbiaaGreatMaCF
import Derived.Test.YtljmggemdkfbiaaGreatMaLF
namespace Go.Proofs.YtljmggemdkfbiaaGreat
open Go.RowKit
set_option linter.unusedSimpArgs false
set_option linter.unusedVariables false

theorem boolF (x : Fr) : ∃ (j : Nat) (y : Bool), (cellsF x)[j]? = some (Value.bool y) := ⟨3 - 1, x.bad, rfl⟩
set_option maxRecDepth 100000 in
set_option maxHeartbeats 2000000 in
theorem tSqF (n : Nat) (p : Option Addr) (N cap : Nat) (f : Nat → Nat → Fr) (w : World) (h : Mx 3 cellsF w n n p N cap f) :
    Calls Tryz.prog 45 #[mV n n p N cap] w fun e w' => ∃ p' cap', e = .returned (.tuple #[mV n n p' N cap', .bool true]) ∧ (Mx 3 cellsF w' n n p' N cap' (mirM (mulMF n f (fun i k => f k i))) ∧ Fresh w.heap.size (.slice p' N cap')) ∧ Bl w w' := by
  have fm : Tryz.prog.follows .mixedOrders = true := by kernel_rfl
  have egT := enters_of Tryz.func88 (by kernel_rfl) rfl
  have egM := enters_of Tryz.func87 (by kernel_rfl) rfl
  have hsq : sqB n n N = true := by unfold sqB; rw [h.fit]; simp
  obtain ⟨Wa, hW⟩ : ∃ Wa, Wa = (w.alloc (.cells #[.int .i64 n, .int .i64 n, .slice p N cap] 30)).alloc (.cells #[.int .i64 0, .int .i64 0, .slice none 0 0] 30) := ⟨_, rfl⟩
  have b0 : Bl w Wa := by rw [hW]; exact ((Bl.refl _).alloc _).alloc _
  have m0 : MBox Wa w.heap.size n n p N cap := by rw [hW]; exact (MBox.new w _ _ _ _ _ _).later ((Bl.refl _).alloc _)
  have x0 : MBox Wa (w.heap.size + 1) 0 0 none 0 0 := by rw [hW]; have := MBox.new (w.alloc (.cells #[.int .i64 n, .int .i64 n, .slice p N cap] 30)) 0 0 none 0 0 30; rw [World.size_alloc] at this; exact this
  have hs : Wa.heap.size = w.heap.size + 1 + 1 := by rw [hW]; simp
  have HW := hideP hW
  clear hW
  go_enter Tryz.func45, Tryz.ntmps45
  go_wp2_with fail
  rw [← HW.out]
  refine (tSquareF _ _ _ _ _ _).mono ?_
  rintro e W ⟨rfl, h1⟩
  rw [hsq]
  clear HW
  replace b0 := b0.trans h1
  replace m0 := m0.later h1
  replace x0 := x0.later h1
  replace hs : w.heap.size + 1 + 1 ≤ W.heap.size := by have := h1.size; omega
  clear h1
  go_wp2_with fail
  refine (wpIn_wide (n := 8)).1 (region_q fm [some 11, some 12, some 13, some 14, some 10, some 15, some 16, some 4, none, some 5] (fun j => j == 6 || j == 9) 8 (by kernel_rfl) (by rfl)
    (fun j v u => match j with | 0 => v = mV n n p N cap | 1 => v = mV n n p N cap | 2 => ∃ q c, v = mV n n q N c ∧ Mx 3 cellsF u n n q N c (fun i k => f k i) | 3 => ∃ q c, v = .tuple #[mV n n q N c, .bool true] ∧ Mx 3 cellsF u n n q N c (mulMF n f (fun i k => f k i)) | 4 => ∃ q c, v = .tuple #[mV n n q N c, .bool true] ∧ Mx 3 cellsF u n n q N c (mulMF n f (fun i k => f k i)) | 5 => ∃ q c, v = mV n n q N c ∧ Mx 3 cellsF u n n q N c (mulMF n f (fun i k => f k i)) | 6 => v = .bool true | 7 => ∃ b, v = .pointer (some ⟨b, 0, none⟩) ∧ W.heap.size ≤ b ∧ MBox u b 0 0 none 0 0 ∧ NoB u b | 9 => v = .bool true | _ => False)
    (by
            intro j v u u' hb h
            split at h <;> first | exact h | (obtain ⟨q, c, e, h1⟩ := h; exact ⟨q, c, e, h1.later hb⟩) | (obtain ⟨b, e, h1, h2, h3⟩ := h; exact ⟨b, e, h1, h2.later hb, h3.later hb h2.lt⟩)) (fun vs u0 u => ∃ b q c, vs 7 = .pointer (some ⟨b, 0, none⟩) ∧ MBox u b n n q N c ∧ Mx 3 cellsF u n n q N c (mulMF n f (fun i k => f k i)) ∧ MBox u (w.heap.size + 1) 0 0 none 0 0 ∧ Bl w u) ?step ?still ?store ?fin)
  case step =>
    intro j o t act u ho hdt hpu hsz hu hfr hin
    have hj : j < 10 := (Array.getElem?_eq_some_iff.1 ho).1
    obtain ⟨c0, c1, c2, _, _, _, _⟩ := m0.later hu
    rcases (by omega : j = 0 ∨ j = 1 ∨ j = 2 ∨ j = 3 ∨ j = 4 ∨ j = 5 ∨ j = 6 ∨ j = 7 ∨ j = 8 ∨ j = 9) with rfl | rfl | rfl | rfl | rfl | rfl | rfl | rfl | rfl | rfl
    · simp only [List.getElem?_toArray, List.getElem?_cons_zero, List.getElem?_cons_succ, Option.some.injEq] at ho
      subst ho
      obtain rfl := Option.some.inj hdt
      have i1 : act.eval (.tmp (1 : Nat)) = .pointer (some ⟨w.heap.size, 0, none⟩) := hfr 1 (by decide)
      exact plain_wp (by intro c h; cases h) (fun _ _ => trivial) (by simp only [execOp, i1, evalC, evalF, evalG]; simp [go_sem, c0, c1, c2]) ⟨_, rfl, rfl, Bl.refl _⟩
    · simp only [List.getElem?_toArray, List.getElem?_cons_zero, List.getElem?_cons_succ, Option.some.injEq] at ho
      subst ho
      obtain rfl := Option.some.inj hdt
      have i1 : act.eval (.tmp (1 : Nat)) = .pointer (some ⟨w.heap.size, 0, none⟩) := hfr 1 (by decide)
      exact plain_wp (by intro c h; cases h) (fun _ _ => trivial) (by simp only [execOp, i1, evalC, evalF, evalG]; simp [go_sem, c0, c1, c2]) ⟨_, rfl, rfl, Bl.refl _⟩
    · simp only [List.getElem?_toArray, List.getElem?_cons_zero, List.getElem?_cons_succ, Option.some.injEq] at ho
      subst ho
      obtain rfl := Option.some.inj hdt
      have i12 : (act.eval (.tmp (12 : Nat))) = mV n n p N cap := hin ⟨1, .data⟩ (by simp) rfl 12 rfl
      refine enter_wp 88 #[mV n n p N cap] (by intro c h; cases h) (fun _ _ => trivial) (by simp only [execOp, evalC, evalF, evalG, resolve, i12, List.map_toArray, List.map_cons, List.map_nil]; simp [invoke, egT, Result.andThen, go_sem]) (by intro h; cases h) (callsIn_wide.2 (mTurnF n n p N cap f u (h.later (b0.trans hu)))) ?_
      rintro e w' ⟨q, c, rfl, ⟨hM, _, _⟩, hb⟩
      exact ⟨_, rfl, _, rfl, ⟨q, c, rfl, hM⟩, hb⟩
    · simp only [List.getElem?_toArray, List.getElem?_cons_zero, List.getElem?_cons_succ, Option.some.injEq] at ho
      subst ho
      obtain rfl := Option.some.inj hdt
      have i11 : (act.eval (.tmp (11 : Nat))) = mV n n p N cap := hin ⟨0, .data⟩ (by simp) rfl 11 rfl
      have i13 : ∃ q c, (act.eval (.tmp (13 : Nat))) = mV n n q N c ∧ Mx 3 cellsF u n n q N c (fun i k => f k i) := hin ⟨2, .data⟩ (by simp) rfl 13 rfl
      obtain ⟨q0, c0', e1, hq⟩ := i13
      refine enter_wp 87 #[mV n n p N cap, mV n n q0 N c0'] (by intro c h; cases h) (fun _ _ => trivial) (by simp only [execOp, evalC, evalF, evalG, resolve, i11, e1, List.map_toArray, List.map_cons, List.map_nil]; simp [invoke, egM, Result.andThen, go_sem]) (by intro h; cases h) (callsIn_wide.2 (mMulF n n n p N cap f q0 N c0' (fun i k => f k i) N u (h.later (b0.trans hu)) hq h.2.1)) ?_
      rintro e w' ⟨q, c, rfl, ⟨hM, _, _⟩, hb⟩
      exact ⟨_, rfl, _, rfl, ⟨q, c, rfl, hM⟩, hb⟩
    · simp only [List.getElem?_toArray, List.getElem?_cons_zero, List.getElem?_cons_succ, Option.some.injEq] at ho
      subst ho
      obtain rfl := Option.some.inj hdt
      have i14 : ∃ q c, (act.eval (.tmp (14 : Nat))) = .tuple #[mV n n q N c, .bool true] ∧ Mx 3 cellsF u n n q N c (mulMF n f (fun i k => f k i)) := hin ⟨3, .data⟩ (by simp) rfl 14 rfl
      obtain ⟨q0, c0', e1, hq⟩ := i14
      exact plain_wp (by intro c h; cases h) (fun _ _ => trivial) (by simp only [execOp, e1]; simp [go_sem]) ⟨_, rfl, ⟨q0, c0', rfl, hq⟩, Bl.refl _⟩
    · simp only [List.getElem?_toArray, List.getElem?_cons_zero, List.getElem?_cons_succ, Option.some.injEq] at ho
      subst ho
      obtain rfl := Option.some.inj hdt
      have i10 : ∃ q c, (act.eval (.tmp (10 : Nat))) = .tuple #[mV n n q N c, .bool true] ∧ Mx 3 cellsF u n n q N c (mulMF n f (fun i k => f k i)) := hin ⟨4, .data⟩ (by simp) rfl 10 rfl
      obtain ⟨q0, c0', e1, hq⟩ := i10
      exact plain_wp (by intro c h; cases h) (fun _ _ => trivial) (by simp only [execOp, e1]; simp [go_sem]) ⟨_, rfl, ⟨q0, c0', rfl, hq⟩, Bl.refl _⟩
    · cases hpu
    · simp only [List.getElem?_toArray, List.getElem?_cons_zero, List.getElem?_cons_succ, Option.some.injEq] at ho
      subst ho
      obtain rfl := Option.some.inj hdt
      exact plain_wp (by intro c h; cases h) (fun _ _ => trivial) (w' := u.alloc (.cells #[.int .i64 0, .int .i64 0, .slice none 0 0] 30)) (v := .pointer (some ⟨u.heap.size, 0, none⟩)) (by simp only [execOp]; simp [go_sem]) ⟨_, rfl, ⟨u.heap.size, rfl, hu.size, MBox.new u 0 0 none 0 0 _, noB_new u _⟩, (Bl.refl _).alloc _⟩
    · simp only [List.getElem?_toArray, List.getElem?_cons_zero, List.getElem?_cons_succ, Option.some.injEq] at ho
      subst ho
      cases hdt
    · cases hpu
  case still =>
    intro j o t act u0 u ho hdt hpu hsz hu hfr hin
    have hj : j < 10 := (Array.getElem?_eq_some_iff.1 ho).1
    obtain ⟨c0, c1, c2, _, _, _, _⟩ := m0.later hu
    rcases (by omega : j = 0 ∨ j = 1 ∨ j = 2 ∨ j = 3 ∨ j = 4 ∨ j = 5 ∨ j = 6 ∨ j = 7 ∨ j = 8 ∨ j = 9) with rfl | rfl | rfl | rfl | rfl | rfl | rfl | rfl | rfl | rfl
    · cases hpu
    · cases hpu
    · cases hpu
    · cases hpu
    · cases hpu
    · cases hpu
    · simp only [List.getElem?_toArray, List.getElem?_cons_zero, List.getElem?_cons_succ, Option.some.injEq] at ho
      subst ho
      obtain rfl := Option.some.inj hdt
      have i10 : ∃ q c, (act.eval (.tmp (10 : Nat))) = .tuple #[mV n n q N c, .bool true] ∧ Mx 3 cellsF u0 n n q N c (mulMF n f (fun i k => f k i)) := hin ⟨4, .data⟩ (by simp) rfl 10 rfl
      obtain ⟨q0, c0', e1, hq⟩ := i10
      exact plain_wp (by intro c h; cases h) (fun _ _ => trivial) (by simp only [execOp, e1]; simp [go_sem]) ⟨_, rfl, rfl, rfl⟩
    · cases hpu
    · cases hpu
    · simp only [List.getElem?_toArray, List.getElem?_cons_zero, List.getElem?_cons_succ, Option.some.injEq] at ho
      subst ho
      obtain rfl := Option.some.inj hdt
      have i16 : (act.eval (.tmp (16 : Nat))) = .bool true := hin ⟨6, .data⟩ (by simp) rfl 16 rfl
      exact plain_wp (by intro c h; cases h) (fun _ _ => trivial) (by simp only [execOp, i16, evalC, evalF, evalG]; simp [go_sem]) ⟨_, rfl, rfl, rfl⟩
  case store =>
    intro o act u vs ho hsz hu hfr hin
    simp only [List.getElem?_toArray, List.getElem?_cons_zero, List.getElem?_cons_succ, Option.some.injEq] at ho
    subst ho
    obtain ⟨i4, k4⟩ : act.eval (.tmp (4 : Nat)) = vs 7 ∧ (∃ b, (vs 7) = .pointer (some ⟨b, 0, none⟩) ∧ W.heap.size ≤ b ∧ MBox u b 0 0 none 0 0 ∧ NoB u b) := hin 7 4 rfl rfl
    obtain ⟨i15, k15⟩ : act.eval (.tmp (15 : Nat)) = vs 5 ∧ (∃ q c, (vs 5) = mV n n q N c ∧ Mx 3 cellsF u n n q N c (mulMF n f (fun i k => f k i))) := hin 5 15 rfl rfl
    obtain ⟨b, e1, hb, bx, nb⟩ := k4
    obtain ⟨q0, c0', e2, hq⟩ := k15
    rw [e1] at i4
    rw [e2] at i15
    obtain ⟨c0, c1, c2, f0, f1, f2, ltb⟩ := id bx
    exact skip_wp (by intro c h; cases h) (fun _ _ => trivial) (by simp only [execOp, i4, i15]; simp [go_sem, c0, c1, c2, f0, f1, f2]) ⟨rfl, b, q0, c0', e1, bx.fill _ _ _ _ _, mx_ne7 hq (noB_mx boolF hq nb) _ _ _, mbox_set7 (mbox_set7 (mbox_set7 (x0.later hu) (by omega) _ _) (by omega) _ _) (by omega) _ _, Bl.put3 (b0.trans hu) (by have := b0.size; omega) _ _ _⟩
  case fin =>
    intro vs vb u0 u hu hin hps
    have a0 := hin 0 11 rfl
    have a1 := hin 1 12 rfl
    have a2 := hin 2 13 rfl
    have a3 := hin 3 14 rfl
    have a4 := hin 4 10 rfl
    have a5 := hin 5 15 rfl
    have a6 := hin 6 16 rfl
    have a7 := hin 7 4 rfl
    have a9 := hin 9 5 rfl
    simp only [putL, Act.put, List.setIfInBounds_toArray, List.set_cons_zero, List.set_cons_succ, Nat.zero_add, Nat.reduceAdd, Nat.reduceBEq, Bool.or_false, Bool.or_true, Bool.false_or, Bool.true_or, Bool.false_eq_true, if_false, if_true, reduceIte, Nat.reduceEqDiff, beq_self_eq_true, Bool.or_self] at a0 a1 a2 a3 a4 a5 a6 a7 a9 ⊢
    rw [if_pos (by decide)] at hps
    simp only [a0, a1, a6, a9]
    obtain ⟨b, q, c, e7, bx, hM, xz, hbw⟩ := hps
    simp only [e7]
    clear a2 a3 a4 a5 a7
    have MI := hideP (fun u' (hu' : Bl u u') => mMirrorF n q N c _ u' (hM.later hu'))
    obtain ⟨c0, c1, c2, f0, f1, f2, ltb⟩ := bx
    go_wp2_with fail
    refine (MI.out _ (Bl.refl _)).mono ?_
    rintro e w3 ⟨p', cap', rfl, ⟨hR, _, hF⟩, h3⟩
    have HR := hideP hR
    have HF := hideP (show Fresh (w.heap.size + 1 + 1) (.slice p' N cap') from fun g hg => by have := hF g hg; have := xz.lt; omega)
    clear hR hF MI c0 c1 c2 f0 f1 f2
    obtain ⟨c0, c1, c2, f0, f1, f2, lt2⟩ := xz.later h3
    go_wp2
    simp [bodyPost, results, Tryz.results45, go_sem, c0, c1, c2]
    exact ⟨p', cap', ⟨rfl, rfl⟩, ⟨mx_put7 HR.out HF.out _ _ _, fun g hg => by have := HF.out g hg; omega⟩, Bl.put3 (hbw.trans h3) (Nat.le_succ _) _ _ _⟩
theorem tSqF_no (r c : Int) (p : Option Addr) (n cap : Nat) (w : World) (hsq : sqB r c n = false) :
    Calls Tryz.prog 45 #[mV r c p n cap] w fun e w' => e = .returned (.tuple #[mV 0 0 none 0 0, .bool false]) ∧ Bl w w' := by
  obtain ⟨W, hW⟩ : ∃ W, W = (w.alloc (.cells #[.int .i64 r, .int .i64 c, .slice p n cap] 30)).alloc (.cells #[.int .i64 0, .int .i64 0, .slice none 0 0] 30) := ⟨_, rfl⟩
  have b0 : Bl w W := by rw [hW]; exact ((Bl.refl _).alloc _).alloc _
  have x0 : MBox W (w.heap.size + 1) 0 0 none 0 0 := by rw [hW]; have := MBox.new (w.alloc (.cells #[.int .i64 r, .int .i64 c, .slice p n cap] 30)) 0 0 none 0 0 30; rw [World.size_alloc] at this; exact this
  have HW := hideP hW
  clear hW
  go_enter Tryz.func45, Tryz.ntmps45
  go_wp2_with fail
  rw [← HW.out]
  refine (tSquareF _ _ _ _ _ _).mono ?_
  rintro e w1 ⟨rfl, h1⟩
  rw [hsq]
  obtain ⟨c0, c1, c2, f0, f1, f2, lt2⟩ := x0.later h1
  go_wp2
  simp [bodyPost, results, Tryz.results45, go_sem, c0, c1, c2]
  exact Bl.put3 (b0.trans h1) (Nat.le_succ _) _ _ _
end Go.Proofs.YtljmggemdkfbiaaGreat
