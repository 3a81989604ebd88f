/- Contracts of root's New, of enclosed numbers (layer 10). Written by genRo.py. -/
import Derived.Test.YtljmggemdkfbiaaGreatRoEN
import Derived.Test.YtljmggemdkfbiaaGreatTrBN
namespace Go.Proofs.YtljmggemdkfbiaaGreat
open Go.RowKit
set_option linter.unusedSimpArgs false
set_option linter.unusedVariables false

theorem Tryz.buildRN (q : Option Addr) (n c : Nat) (r d : Int) (p : Option Addr) (N cap : Nat) (u : World) : (Instr.build 50 #[(0, .slice q n c), (1, mV r d p N cap)]).run Tryz.prog u = .ok (sJ q n c r d p N cap) u := by kernel_rfl
set_option maxRecDepth 100000 in
set_option maxHeartbeats 2000000 in
theorem rNewN (n : Nat) (px : Option Addr) (cx : Nat) (x : Nat → En) (p : Option Addr) (N cap : Nat) (f : Nat → Nat → En) (w : World) (hx : Rq 4 cellsN w (.slice px n cx) (linJ n x)) (h : Mx 4 cellsN w n n p N cap f) (h4 : n ≤ 4) :
    Calls Tryz.prog 34 #[.slice px n cx, mV n n p N cap] w fun e w' => ∃ q c p' c', e = .returned (.tuple #[sJ q n c n n p' N c', .bool true]) ∧ (Rw 4 cellsN w' (.slice q n c) (linJ n x) ∧ Mx 4 cellsN w' n n p' N c' (clrN f)) ∧ Bl w w' := by
  have fm : Tryz.prog.follows .mixedOrders = true := by kernel_rfl
  have egC := enters_of Tryz.func72 (by kernel_rfl) rfl
  have hfit := fitJ_dim h.1 h.2.1 h4
  obtain ⟨W, hW⟩ : ∃ W, W = (w.alloc (.cells #[.int .i64 n, .int .i64 n, .slice p N cap] 48)).alloc (.cells #[.slice none 0 0, .int .i64 0, .int .i64 0, .slice none 0 0] 50) := ⟨_, rfl⟩
  have b0 : Bl w W := by rw [hW]; exact ((Bl.refl _).alloc _).alloc _
  have m0 : MBox W w.heap.size n n p N cap := by rw [hW]; exact (MBox.new w _ _ _ _ _ _).later ((Bl.refl _).alloc _)
  have s0 : SBox W (w.heap.size + 1) none 0 0 0 0 none 0 0 := by rw [hW]; have := SBox.new (w.alloc (.cells #[.int .i64 n, .int .i64 n, .slice p N cap] 48)) none 0 0 0 0 none 0 0 50; rw [World.size_alloc] at this; exact this
  have hs : W.heap.size = w.heap.size + 1 + 1 := by rw [hW]; simp
  have HX := hideP hx
  have HMX := hideP h
  have HW := hideP hW
  clear hW hx h
  go_enter Tryz.func34, Tryz.ntmps34
  go_wp2_with fail
  rw [← HW.out]
  refine (rFitsN _ _ _ _ _ _ _ _ _).mono ?_
  rintro e w1 ⟨rfl, h1⟩
  rw [hfit]
  obtain ⟨c0, c1, cm, f0, f1, f2, lt⟩ := m0.later h1
  have b01 := b0.trans h1
  go_wp2_with fail
  refine (tClearN n p N cap f w1 (HMX.out.later b01)).mono ?_
  rintro e w2 ⟨p2, c2, rfl, ⟨hP, hF⟩, h2⟩
  have k2 := MBox.new w2 n n p2 N c2 48
  obtain ⟨W2, hW2⟩ : ∃ W2, W2 = w2.alloc (.cells #[.int .i64 n, .int .i64 n, .slice p2 N c2] 48) := ⟨_, rfl⟩
  have b2 : Bl w2 W2 := by rw [hW2]; exact (Bl.refl _).alloc _
  rw [← hW2] at k2
  have HW2 := hideP hW2
  have B2 : Bl w W2 := b01.trans (h2.trans b2)
  have s2 := s0.later (h1.trans (h2.trans b2))
  have hsz : w.heap.size + 1 + 1 ≤ W2.heap.size := by have := (h1.trans (h2.trans b2)).size; omega
  have HP := hideP (show Mx 4 cellsN W2 n n p2 N c2 (clrN f) from Mx.later hP b2)
  have HF := hideP (show Fresh (w.heap.size + 1 + 1) (.slice p2 N c2) from fresh_le hF (by have := h1.size; omega))
  have CL := hideP (fun u (hu : Bl W2 u) => clone_linN px n cx x u (HX.out.later (B2.trans hu)) (by have := h4; omega))
  clear hW2 hP hF c0 c1 cm f0 f1 f2 lt
  go_wp2_with fail
  rw [← HW2.out]
  refine (wpIn_wide (n := 8)).1 (region_q fm [some 18, some 19, some 20, some 21, none, some 5] (fun j => j == 5) 4 (by kernel_rfl) (by rfl)
    (fun j v u => match j with | 0 => v = .slice px n cx | 1 => ∃ q c, v = .slice q n c ∧ Rw 4 cellsN u (.slice q n c) (linJ n x) ∧ Fresh W2.heap.size (.slice q n c) | 2 => v = mV n n p2 N c2 | 3 => ∃ q c, v = sJ q n c n n p2 N c2 ∧ Rw 4 cellsN u (.slice q n c) (linJ n x) ∧ Fresh W2.heap.size (.slice q n c) | 5 => v = .bool true | _ => False)
    (by
        intro j v u u' hb h
        split at h <;> first | exact h | (obtain ⟨q, c, e, h1, h2⟩ := h; exact ⟨q, c, e, h1.later hb, h2⟩)) (fun vs u0 u => ∃ q c, SBox u (w.heap.size + 1) q n c n n p2 N c2 ∧ Rw 4 cellsN u (.slice q n c) (linJ n x) ∧ Mx 4 cellsN u n n p2 N c2 (clrN f) ∧ Bl w u) ?step ?still ?store ?fin)
  case step =>
    intro j o t act u ho hdt hpu hsz hu hfr hin
    have hj : j < 6 := (Array.getElem?_eq_some_iff.1 ho).1
    obtain ⟨y0, y1, y2, _, _, _, _⟩ := k2.later hu
    rcases (by omega : j = 0 ∨ j = 1 ∨ j = 2 ∨ j = 3 ∨ j = 4 ∨ j = 5) with rfl | rfl | rfl | rfl | rfl | rfl
    · simp only [List.getElem?_toArray, List.getElem?_cons_zero, List.getElem?_cons_succ, Option.some.injEq] at ho
      subst ho
      obtain rfl := Option.some.inj hdt
      have i0 : act.eval (.tmp (0 : Nat)) = .slice px n cx := hfr 0 (by decide)
      exact plain_wp (by intro c h; cases h) (fun _ _ => trivial) (by simp only [execOp, i0, evalC, evalF, evalG]; simp [go_sem]) ⟨_, rfl, rfl, Bl.refl _⟩
    · simp only [List.getElem?_toArray, List.getElem?_cons_zero, List.getElem?_cons_succ, Option.some.injEq] at ho
      subst ho
      obtain rfl := Option.some.inj hdt
      have i18 : (act.eval (.tmp (18 : Nat))) = .slice px n cx := hin ⟨0, .data⟩ (by simp) rfl 18 rfl
      refine enter_wp 72 #[.slice px n cx] (by intro c h; cases h) (fun _ _ => trivial) (by simp only [execOp, evalC, evalF, evalG, resolve, i18, List.map_toArray, List.map_cons, List.map_nil]; simp [invoke, egC, Result.andThen, go_sem]) (by intro h; cases h) (callsIn_wide.2 (CL.out u hu)) ?_
      rintro e w' ⟨q, c, rfl, ⟨hR, hF⟩, hb⟩
      exact ⟨_, rfl, _, rfl, ⟨q, c, rfl, hR, fresh_le hF hu.size⟩, hb⟩
    · simp only [List.getElem?_toArray, List.getElem?_cons_zero, List.getElem?_cons_succ, Option.some.injEq] at ho
      subst ho
      obtain rfl := Option.some.inj hdt
      have i6 : act.eval (.tmp (6 : Nat)) = .pointer (some ⟨w2.heap.size, 0, none⟩) := hfr 6 (by decide)
      exact plain_wp (by intro c h; cases h) (fun _ _ => trivial) (by simp only [execOp, i6, evalC, evalF, evalG]; simp [go_sem, y0, y1, y2]) ⟨_, rfl, rfl, Bl.refl _⟩
    · simp only [List.getElem?_toArray, List.getElem?_cons_zero, List.getElem?_cons_succ, Option.some.injEq] at ho
      subst ho
      obtain rfl := Option.some.inj hdt
      have i19 : ∃ q c, (act.eval (.tmp (19 : Nat))) = .slice q n c ∧ Rw 4 cellsN u (.slice q n c) (linJ n x) ∧ Fresh W2.heap.size (.slice q n c) := hin ⟨1, .data⟩ (by simp) rfl 19 rfl
      have i20 : (act.eval (.tmp (20 : Nat))) = mV n n p2 N c2 := hin ⟨2, .data⟩ (by simp) rfl 20 rfl
      obtain ⟨q0, c0', e1, hq, hf⟩ := i19
      exact plain_wp (by intro c h; cases h) (fun _ _ => trivial) (by simp only [execOp, List.map_toArray, List.map_cons, List.map_nil, e1, i20]; simp [Tryz.buildRN, Result.andThen, go_sem]) ⟨_, rfl, ⟨q0, c0', rfl, hq, hf⟩, Bl.refl _⟩
    · simp only [List.getElem?_toArray, List.getElem?_cons_zero, List.getElem?_cons_succ, Option.some.injEq] at ho
      subst ho
      cases hdt
    · cases hpu
  case still =>
    intro j o t act u0 u ho hdt hpu hsz hu hfr hin
    have hj : j < 6 := (Array.getElem?_eq_some_iff.1 ho).1
    obtain ⟨y0, y1, y2, _, _, _, _⟩ := k2.later hu
    rcases (by omega : j = 0 ∨ j = 1 ∨ j = 2 ∨ j = 3 ∨ j = 4 ∨ j = 5) with rfl | rfl | rfl | rfl | rfl | rfl
    · cases hpu
    · cases hpu
    · cases hpu
    · cases hpu
    · cases hpu
    · simp only [List.getElem?_toArray, List.getElem?_cons_zero, List.getElem?_cons_succ, Option.some.injEq] at ho
      subst ho
      obtain rfl := Option.some.inj hdt
      exact plain_wp (by intro c h; cases h) (fun _ _ => trivial) (by simp only [execOp, evalC, evalF, evalG]; simp [go_sem]) ⟨_, rfl, rfl, rfl⟩
  case store =>
    intro o act u vs ho hsz hu hfr hin
    simp only [List.getElem?_toArray, List.getElem?_cons_zero, List.getElem?_cons_succ, Option.some.injEq] at ho
    subst ho
    have i4 : act.eval (.tmp (4 : Nat)) = .pointer (some ⟨w.heap.size + 1, 0, none⟩) := hfr 4 (by decide)
    obtain ⟨i21, k21⟩ : act.eval (.tmp (21 : Nat)) = vs 3 ∧ (∃ q c, (vs 3) = sJ q n c n n p2 N c2 ∧ Rw 4 cellsN u (.slice q n c) (linJ n x) ∧ Fresh W2.heap.size (.slice q n c)) := hin 3 21 rfl rfl
    obtain ⟨q0, c0', e1, hq, hf⟩ := k21
    rw [e1] at i21
    obtain ⟨c0, c1, c2', c3, f0, f1, f2, f3, lt⟩ := id (s2.later hu)
    exact skip_wp (by intro c h; cases h) (fun _ _ => trivial) (by simp only [execOp, i4, i21]; simp [go_sem, c0, c1, c2', c3, f0, f1, f2, f3]) ⟨rfl, q0, c0', (s2.later hu).fill _ _ _ _ _ _ _ _, rw_put4N hq (fresh_le hf (by omega)) _ _ _ _, mx_put4 (HP.out.later hu) HF.out _ _ _ _, Bl.put4 (B2.trans hu) (Nat.le_succ _) _ _ _ _⟩
  case fin =>
    intro vs vb u0 u hu hin hps
    have a0 := hin 0 18 rfl
    have a1 := hin 1 19 rfl
    have a2 := hin 2 20 rfl
    have a3 := hin 3 21 rfl
    have a5 := hin 5 5 rfl
    simp only [putL, Act.put, List.setIfInBounds_toArray, List.set_cons_zero, List.set_cons_succ, Nat.zero_add, Nat.reduceAdd, Nat.reduceBEq, Bool.or_false, Bool.or_true, Bool.false_or, Bool.true_or, Bool.false_eq_true, if_false, if_true, reduceIte, Nat.reduceEqDiff, beq_self_eq_true, Bool.or_self] at a0 a1 a2 a3 a5 ⊢
    rw [if_pos (by decide)] at hps
    simp only [a0, a2, a5]
    obtain ⟨q, c, sx, hR, hM, hbw⟩ := hps
    clear a1 a3
    have HR := hideP hR
    have HM := hideP hM
    clear hR hM
    obtain ⟨c0, c1, c2', c3, f0, f1, f2, f3, lt⟩ := sx
    go_wp2
    simp [bodyPost, results, Tryz.results34, go_sem, c0, c1, c2', c3]
    exact ⟨q, c, p2, c2, by simp, ⟨HR.out, HM.out⟩, hbw⟩
set_option maxHeartbeats 1000000 in
theorem rNewN_no (px : Option Addr) (nx cx : Nat) (r c : Int) (p : Option Addr) (N cap : Nat) (w : World) (hf : fitJ r c N nx = false) :
    Calls Tryz.prog 34 #[.slice px nx cx, mV r c p N cap] w fun e w' => e = .returned (.tuple #[sJ none 0 0 0 0 none 0 0, .bool false]) ∧ Bl w w' := by
  obtain ⟨W, hW⟩ : ∃ W, W = (w.alloc (.cells #[.int .i64 r, .int .i64 c, .slice p N cap] 48)).alloc (.cells #[.slice none 0 0, .int .i64 0, .int .i64 0, .slice none 0 0] 50) := ⟨_, rfl⟩
  have b0 : Bl w W := by rw [hW]; exact ((Bl.refl _).alloc _).alloc _
  have s0 : SBox W (w.heap.size + 1) none 0 0 0 0 none 0 0 := by rw [hW]; have := SBox.new (w.alloc (.cells #[.int .i64 r, .int .i64 c, .slice p N cap] 48)) none 0 0 0 0 none 0 0 50; rw [World.size_alloc] at this; exact this
  have HW := hideP hW
  clear hW
  go_enter Tryz.func34, Tryz.ntmps34
  go_wp2_with fail
  rw [← HW.out]
  refine (rFitsN _ _ _ _ _ _ _ _ _).mono ?_
  rintro e w1 ⟨rfl, h1⟩
  rw [hf]
  obtain ⟨c0, c1, c2, c3, f0, f1, f2, f3, lt⟩ := s0.later h1
  go_wp2
  simp [bodyPost, results, Tryz.results34, go_sem, c0, c1, c2, c3]
  exact Bl.put4 (b0.trans h1) (Nat.le_succ _) _ _ _ _
end Go.Proofs.YtljmggemdkfbiaaGreat
