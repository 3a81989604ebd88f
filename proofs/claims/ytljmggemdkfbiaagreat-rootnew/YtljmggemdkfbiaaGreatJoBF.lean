/- Contracts of joseph's New, around, mirrored, of fractions (layer 9). Written by genJo.py. -/
import Derived.Test.YtljmggemdkfbiaaGreatJoAF
import Derived.Test.YtljmggemdkfbiaaGreatTrCF
import Derived.Test.YtljmggemdkfbiaaGreatKdf
import Derived.Test.YtljmggemdkfbiaaGreatMaX
namespace Go.Proofs.YtljmggemdkfbiaaGreat
open Go.RowKit
set_option linter.unusedSimpArgs false
set_option linter.unusedVariables false

theorem Tryz.buildSF (q : Option Addr) (n c : Nat) (r d : Int) (p : Option Addr) (N cap : Nat) (u : World) : (Instr.build 36 #[(0, .slice q n c), (1, mV r d p N cap)]).run Tryz.prog u = .ok (sJ q n c r d p N cap) u := by kernel_rfl
theorem rw_put4F {w : World} {v : Value} {xs : List Fr} {b : Nat} (h : Rw 3 cellsF w v xs) (hf : Fresh (b + 1) v) (v0 v1 v2 v3 : Value) : Rw 3 cellsF ((((w.setCell ⟨b, 0, none⟩ v0).setCell ⟨b, 1, none⟩ v1).setCell ⟨b, 2, none⟩ v2).setCell ⟨b, 3, none⟩ v3) v xs := by
  rcases h with h | ⟨g, o, cap, rfl, hc, hb, hx⟩
  · exact .inl h
  · have hne : b + 1 ≤ g := hf g rfl
    have hk : ((((w.setCell ⟨b, 0, none⟩ v0).setCell ⟨b, 1, none⟩ v1).setCell ⟨b, 2, none⟩ v2).setCell ⟨b, 3, none⟩ v3).heap[g]? = w.heap[g]? := by
      rw [Below.heap_setCell _ _ _ g (by show g ≠ b; omega), Below.heap_setCell _ _ _ g (by show g ≠ b; omega), Below.heap_setCell _ _ _ g (by show g ≠ b; omega), Below.heap_setCell _ _ _ g (by show g ≠ b; omega)]
    exact .inr ⟨g, o, cap, rfl, hc, by simpa using hb, fun j x hj k v hv => (World.cell?_of_block (a := ⟨g, o + j * 3 + k, none⟩) hk).trans (hx j x hj k v hv)⟩
theorem clone_linF (px : Option Addr) (n cx : Nat) (x : Nat → Fr) (w : World) (h : Rq 3 cellsF w (.slice px n cx) (linJ n x)) (hl : n ≤ 1000000) :
    Calls Tryz.prog 66 #[.slice px n cx] w fun e w' => ∃ q c, e = .returned (.slice q n c) ∧ (Rw 3 cellsF w' (.slice q n c) (linJ n x) ∧ Fresh w.heap.size (.slice q n c)) ∧ Bl w w' :=
  (vCloneF _ _ w h (by rw [linJ_len]; exact hl)).mono fun e w' ⟨u, he, hr, hf, hb⟩ => by
    obtain ⟨q, c, rfl, _, _⟩ := hr.cut
    rw [linJ_len] at hr hf he
    exact ⟨q, c, he, ⟨hr, hf⟩, hb⟩
set_option maxRecDepth 100000 in
set_option maxHeartbeats 2000000 in
theorem jNewF (n : Nat) (px : Option Addr) (cx : Nat) (x : Nat → Fr) (p : Option Addr) (N cap : Nat) (f : Nat → Nat → Fr) (w : World) (hx : Rq 3 cellsF w (.slice px n cx) (linJ n x)) (h : Mx 3 cellsF w n n p N cap f) (h4 : n ≤ 4) :
    Calls Tryz.prog 26 #[.slice px n cx, mV n n p N cap] w fun e w' => ∃ q c p' c', e = .returned (.tuple #[sJ q n c n n p' N c', .bool true]) ∧ (Rw 3 cellsF w' (.slice q n c) (linJ n x) ∧ Mx 3 cellsF w' n n p' N c' (squareJ kdF n f)) ∧ Bl w w' := by
  have fm : Tryz.prog.follows .mixedOrders = true := by kernel_rfl
  have egC := enters_of Tryz.func66 (by kernel_rfl) rfl
  have hfit := fitJ_dim h.1 h.2.1 h4
  obtain ⟨W, hW⟩ : ∃ W, W = (w.alloc (.cells #[.int .i64 n, .int .i64 n, .slice p N cap] 30)).alloc (.cells #[.slice none 0 0, .int .i64 0, .int .i64 0, .slice none 0 0] 36) := ⟨_, rfl⟩
  have b0 : Bl w W := by rw [hW]; exact ((Bl.refl _).alloc _).alloc _
  have m0 : MBox W w.heap.size n n p N cap := by rw [hW]; exact (MBox.new w _ _ _ _ _ _).later ((Bl.refl _).alloc _)
  have s0 : SBox W (w.heap.size + 1) none 0 0 0 0 none 0 0 := by rw [hW]; have := SBox.new (w.alloc (.cells #[.int .i64 n, .int .i64 n, .slice p N cap] 30)) none 0 0 0 0 none 0 0 36; rw [World.size_alloc] at this; exact this
  have hs : W.heap.size = w.heap.size + 1 + 1 := by rw [hW]; simp
  have HX := hideP hx
  have HMX := hideP h
  have HW := hideP hW
  clear hW hx h
  go_enter Tryz.func26, Tryz.ntmps26
  go_wp2_with fail
  rw [← HW.out]
  refine (jFitsF _ _ _ _ _ _ _).mono ?_
  rintro e w1 ⟨rfl, h1⟩
  rw [hfit]
  obtain ⟨c0, c1, cm, f0, f1, f2, lt⟩ := m0.later h1
  have b01 := b0.trans h1
  go_wp2_with fail
  refine (tSqF n p N cap f w1 (HMX.out.later b01)).mono ?_
  rintro e w2 ⟨p2, c2, rfl, ⟨hP, hF⟩, h2⟩
  have k2 := MBox.new w2 n n p2 N c2 30
  obtain ⟨W2, hW2⟩ : ∃ W2, W2 = w2.alloc (.cells #[.int .i64 n, .int .i64 n, .slice p2 N c2] 30) := ⟨_, rfl⟩
  have b2 : Bl w2 W2 := by rw [hW2]; exact (Bl.refl _).alloc _
  rw [← hW2] at k2
  have HW2 := hideP hW2
  have B2 : Bl w W2 := b01.trans (h2.trans b2)
  have s2 := s0.later (h1.trans (h2.trans b2))
  have hsz : w.heap.size + 1 + 1 ≤ W2.heap.size := by have := (h1.trans (h2.trans b2)).size; omega
  have HP := hideP (show Mx 3 cellsF W2 n n p2 N c2 (squareJ kdF n f) from Mx.later hP b2)
  have HF := hideP (show Fresh (w.heap.size + 1 + 1) (.slice p2 N c2) from fresh_le hF (by have := h1.size; omega))
  have CL := hideP (fun u (hu : Bl W2 u) => clone_linF px n cx x u (HX.out.later (B2.trans hu)) (by have := h4; omega))
  clear hW2 hP hF c0 c1 cm f0 f1 f2 lt
  go_wp2_with fail
  rw [← HW2.out]
  refine (wpIn_wide (n := 8)).1 (region_q fm [some 19, some 20, some 21, some 22, none, some 5] (fun j => j == 5) 4 (by kernel_rfl) (by rfl)
    (fun j v u => match j with | 0 => v = .slice px n cx | 1 => ∃ q c, v = .slice q n c ∧ Rw 3 cellsF u (.slice q n c) (linJ n x) ∧ Fresh W2.heap.size (.slice q n c) | 2 => v = mV n n p2 N c2 | 3 => ∃ q c, v = sJ q n c n n p2 N c2 ∧ Rw 3 cellsF u (.slice q n c) (linJ n x) ∧ Fresh W2.heap.size (.slice q n c) | 5 => v = .bool true | _ => False)
    (by
        intro j v u u' hb h
        split at h <;> first | exact h | (obtain ⟨q, c, e, h1, h2⟩ := h; exact ⟨q, c, e, h1.later hb, h2⟩)) (fun vs u0 u => ∃ q c, SBox u (w.heap.size + 1) q n c n n p2 N c2 ∧ Rw 3 cellsF u (.slice q n c) (linJ n x) ∧ Mx 3 cellsF u n n p2 N c2 (squareJ kdF n f) ∧ Bl w u) ?step ?still ?store ?fin)
  case step =>
    intro j o t act u ho hdt hpu hsz hu hfr hin
    have hj : j < 6 := (Array.getElem?_eq_some_iff.1 ho).1
    obtain ⟨y0, y1, y2, _, _, _, _⟩ := k2.later hu
    rcases (by omega : j = 0 ∨ j = 1 ∨ j = 2 ∨ j = 3 ∨ j = 4 ∨ j = 5) with rfl | rfl | rfl | rfl | rfl | rfl
    · simp only [List.getElem?_toArray, List.getElem?_cons_zero, List.getElem?_cons_succ, Option.some.injEq] at ho
      subst ho
      obtain rfl := Option.some.inj hdt
      have i0 : act.eval (.tmp (0 : Nat)) = .slice px n cx := hfr 0 (by decide)
      exact plain_wp (by intro c h; cases h) (fun _ _ => trivial) (by simp only [execOp, i0, evalC, evalF, evalG]; simp [go_sem]) ⟨_, rfl, rfl, Bl.refl _⟩
    · simp only [List.getElem?_toArray, List.getElem?_cons_zero, List.getElem?_cons_succ, Option.some.injEq] at ho
      subst ho
      obtain rfl := Option.some.inj hdt
      have i19 : (act.eval (.tmp (19 : Nat))) = .slice px n cx := hin ⟨0, .data⟩ (by simp) rfl 19 rfl
      refine enter_wp 66 #[.slice px n cx] (by intro c h; cases h) (fun _ _ => trivial) (by simp only [execOp, evalC, evalF, evalG, resolve, i19, List.map_toArray, List.map_cons, List.map_nil]; simp [invoke, egC, Result.andThen, go_sem]) (by intro h; cases h) (callsIn_wide.2 (CL.out u hu)) ?_
      rintro e w' ⟨q, c, rfl, ⟨hR, hF⟩, hb⟩
      exact ⟨_, rfl, _, rfl, ⟨q, c, rfl, hR, fresh_le hF hu.size⟩, hb⟩
    · simp only [List.getElem?_toArray, List.getElem?_cons_zero, List.getElem?_cons_succ, Option.some.injEq] at ho
      subst ho
      obtain rfl := Option.some.inj hdt
      have i6 : act.eval (.tmp (6 : Nat)) = .pointer (some ⟨w2.heap.size, 0, none⟩) := hfr 6 (by decide)
      exact plain_wp (by intro c h; cases h) (fun _ _ => trivial) (by simp only [execOp, i6, evalC, evalF, evalG]; simp [go_sem, y0, y1, y2]) ⟨_, rfl, rfl, Bl.refl _⟩
    · simp only [List.getElem?_toArray, List.getElem?_cons_zero, List.getElem?_cons_succ, Option.some.injEq] at ho
      subst ho
      obtain rfl := Option.some.inj hdt
      have i20 : ∃ q c, (act.eval (.tmp (20 : Nat))) = .slice q n c ∧ Rw 3 cellsF u (.slice q n c) (linJ n x) ∧ Fresh W2.heap.size (.slice q n c) := hin ⟨1, .data⟩ (by simp) rfl 20 rfl
      have i21 : (act.eval (.tmp (21 : Nat))) = mV n n p2 N c2 := hin ⟨2, .data⟩ (by simp) rfl 21 rfl
      obtain ⟨q0, c0', e1, hq, hf⟩ := i20
      exact plain_wp (by intro c h; cases h) (fun _ _ => trivial) (by simp only [execOp, List.map_toArray, List.map_cons, List.map_nil, e1, i21]; simp [Tryz.buildSF, Result.andThen, go_sem]) ⟨_, rfl, ⟨q0, c0', rfl, hq, hf⟩, Bl.refl _⟩
    · simp only [List.getElem?_toArray, List.getElem?_cons_zero, List.getElem?_cons_succ, Option.some.injEq] at ho
      subst ho
      cases hdt
    · cases hpu
  case still =>
    intro j o t act u0 u ho hdt hpu hsz hu hfr hin
    have hj : j < 6 := (Array.getElem?_eq_some_iff.1 ho).1
    obtain ⟨y0, y1, y2, _, _, _, _⟩ := k2.later hu
    rcases (by omega : j = 0 ∨ j = 1 ∨ j = 2 ∨ j = 3 ∨ j = 4 ∨ j = 5) with rfl | rfl | rfl | rfl | rfl | rfl
    · cases hpu
    · cases hpu
    · cases hpu
    · cases hpu
    · cases hpu
    · simp only [List.getElem?_toArray, List.getElem?_cons_zero, List.getElem?_cons_succ, Option.some.injEq] at ho
      subst ho
      obtain rfl := Option.some.inj hdt
      exact plain_wp (by intro c h; cases h) (fun _ _ => trivial) (by simp only [execOp, evalC, evalF, evalG]; simp [go_sem]) ⟨_, rfl, rfl, rfl⟩
  case store =>
    intro o act u vs ho hsz hu hfr hin
    simp only [List.getElem?_toArray, List.getElem?_cons_zero, List.getElem?_cons_succ, Option.some.injEq] at ho
    subst ho
    have i4 : act.eval (.tmp (4 : Nat)) = .pointer (some ⟨w.heap.size + 1, 0, none⟩) := hfr 4 (by decide)
    obtain ⟨i22, k22⟩ : act.eval (.tmp (22 : Nat)) = vs 3 ∧ (∃ q c, (vs 3) = sJ q n c n n p2 N c2 ∧ Rw 3 cellsF u (.slice q n c) (linJ n x) ∧ Fresh W2.heap.size (.slice q n c)) := hin 3 22 rfl rfl
    obtain ⟨q0, c0', e1, hq, hf⟩ := k22
    rw [e1] at i22
    obtain ⟨c0, c1, c2', c3, f0, f1, f2, f3, lt⟩ := id (s2.later hu)
    exact skip_wp (by intro c h; cases h) (fun _ _ => trivial) (by simp only [execOp, i4, i22]; simp [go_sem, c0, c1, c2', c3, f0, f1, f2, f3]) ⟨rfl, q0, c0', (s2.later hu).fill _ _ _ _ _ _ _ _, rw_put4F hq (fresh_le hf (by omega)) _ _ _ _, mx_put4 (HP.out.later hu) HF.out _ _ _ _, Bl.put4 (B2.trans hu) (Nat.le_succ _) _ _ _ _⟩
  case fin =>
    intro vs vb u0 u hu hin hps
    have a0 := hin 0 19 rfl
    have a1 := hin 1 20 rfl
    have a2 := hin 2 21 rfl
    have a3 := hin 3 22 rfl
    have a5 := hin 5 5 rfl
    simp only [putL, Act.put, List.setIfInBounds_toArray, List.set_cons_zero, List.set_cons_succ, Nat.zero_add, Nat.reduceAdd, Nat.reduceBEq, Bool.or_false, Bool.or_true, Bool.false_or, Bool.true_or, Bool.false_eq_true, if_false, if_true, reduceIte, Nat.reduceEqDiff, beq_self_eq_true, Bool.or_self] at a0 a1 a2 a3 a5 ⊢
    rw [if_pos (by decide)] at hps
    simp only [a0, a2, a5]
    obtain ⟨q, c, sx, hR, hM, hbw⟩ := hps
    clear a1 a3
    have HR := hideP hR
    have HM := hideP hM
    clear hR hM
    obtain ⟨c0, c1, c2', c3, f0, f1, f2, f3, lt⟩ := sx
    go_wp2
    simp [bodyPost, results, Tryz.results26, go_sem, c0, c1, c2', c3]
    exact ⟨q, c, p2, c2, by simp, ⟨HR.out, HM.out⟩, hbw⟩
set_option maxHeartbeats 1000000 in
theorem jNewF_no (px : Option Addr) (nx cx : Nat) (r c : Int) (p : Option Addr) (N cap : Nat) (w : World) (hf : fitJ r c N nx = false) :
    Calls Tryz.prog 26 #[.slice px nx cx, mV r c p N cap] w fun e w' => e = .returned (.tuple #[sJ none 0 0 0 0 none 0 0, .bool false]) ∧ Bl w w' := by
  obtain ⟨W, hW⟩ : ∃ W, W = (w.alloc (.cells #[.int .i64 r, .int .i64 c, .slice p N cap] 30)).alloc (.cells #[.slice none 0 0, .int .i64 0, .int .i64 0, .slice none 0 0] 36) := ⟨_, rfl⟩
  have b0 : Bl w W := by rw [hW]; exact ((Bl.refl _).alloc _).alloc _
  have s0 : SBox W (w.heap.size + 1) none 0 0 0 0 none 0 0 := by rw [hW]; have := SBox.new (w.alloc (.cells #[.int .i64 r, .int .i64 c, .slice p N cap] 30)) none 0 0 0 0 none 0 0 36; rw [World.size_alloc] at this; exact this
  have HW := hideP hW
  clear hW
  go_enter Tryz.func26, Tryz.ntmps26
  go_wp2_with fail
  rw [← HW.out]
  refine (jFitsF _ _ _ _ _ _ _).mono ?_
  rintro e w1 ⟨rfl, h1⟩
  rw [hf]
  obtain ⟨c0, c1, c2, c3, f0, f1, f2, f3, lt⟩ := s0.later h1
  go_wp2
  simp [bodyPost, results, Tryz.results26, go_sem, c0, c1, c2, c3]
  exact Bl.put4 (b0.trans h1) (Nat.le_succ _) _ _ _ _
set_option maxRecDepth 100000 in
set_option maxHeartbeats 2000000 in
theorem jAroundF (n N : Nat) (p : Option Addr) (cap : Nat) (m : Nat → Nat → Fr) (q2 : Option Addr) (cap2 : Nat) (f : Nat → Nat → Fr) (w : World) (hm : Mx 3 cellsF w n n p N cap m) (hf : Mx 3 cellsF w n n q2 N cap2 f) :
    Calls Tryz.prog 44 #[mV n n p N cap, mV n n q2 N cap2] w fun e w' => ∃ q c, e = .returned (mV n n q N c) ∧ (Mx 3 cellsF w' n n q N c (aroundJ kdF n m f) ∧ Fresh w.heap.size (.slice q N c)) ∧ Bl w w' := by
  have fm : Tryz.prog.follows .mixedOrders = true := by kernel_rfl
  have egT := enters_of Tryz.func88 (by kernel_rfl) rfl
  have egM := enters_of Tryz.func87 (by kernel_rfl) rfl
  have HNN := hideP (show N = n * n from hm.2.1)
  obtain ⟨W, hW⟩ : ∃ W, W = ((w.alloc (.cells #[.int .i64 n, .int .i64 n, .slice p N cap] 30)).alloc (.cells #[.int .i64 n, .int .i64 n, .slice q2 N cap2] 30)).alloc (.cells #[.int .i64 0, .int .i64 0, .slice none 0 0] 30) := ⟨_, rfl⟩
  have b0 : Bl w W := by rw [hW]; exact (((Bl.refl _).alloc _).alloc _).alloc _
  have m0 : MBox W w.heap.size n n p N cap := by rw [hW]; exact (MBox.new w _ _ _ _ _ _).later (((Bl.refl _).alloc _).alloc _)
  have z0 : MBox W (w.heap.size + 1 + 1) 0 0 none 0 0 := by rw [hW]; have := MBox.new ((w.alloc (.cells #[.int .i64 n, .int .i64 n, .slice p N cap] 30)).alloc (.cells #[.int .i64 n, .int .i64 n, .slice q2 N cap2] 30)) 0 0 none 0 0 30; rw [World.size_alloc, World.size_alloc] at this; exact this
  have hs : W.heap.size = w.heap.size + 1 + 1 + 1 := by rw [hW]; simp
  have HM := hideP hm
  have HFX := hideP hf
  have HW := hideP hW
  clear hW hm hf
  go_enter Tryz.func44, Tryz.ntmps44
  go_wp2_with fail
  rw [← HW.out]
  refine (mMulF n n n p N cap m q2 N cap2 f N W (HM.out.later b0) (HFX.out.later b0) HNN.out).mono ?_
  rintro e w1 ⟨p1, c1, rfl, ⟨h1x, _, _⟩, h1⟩
  have k1 := MBox.new w1 n n p1 N c1 30
  obtain ⟨W2, hW2⟩ : ∃ W2, W2 = w1.alloc (.cells #[.int .i64 n, .int .i64 n, .slice p1 N c1] 30) := ⟨_, rfl⟩
  have b2 : Bl w1 W2 := by rw [hW2]; exact (Bl.refl _).alloc _
  rw [← hW2] at k1
  have hs2 : W2.heap.size = w1.heap.size + 1 := by rw [hW2]; simp
  have hw1 : w.heap.size + 1 + 1 + 1 ≤ w1.heap.size := by have := h1.size; omega
  have HW2 := hideP hW2
  have B2 : Bl w W2 := b0.trans (h1.trans b2)
  have km := m0.later (h1.trans b2)
  have kz := z0.later (h1.trans b2)
  have H1 := hideP (Mx.later h1x b2)
  clear hW2 h1x
  go_wp2_with fail
  rw [← HW2.out]
  refine (wpIn_wide (n := 8)).1 (region_q fm [some 14, some 15, some 16, some 17, some 13, some 18, some 19, none] (fun j => j == 6) 7 (by kernel_rfl) (by rfl)
    (fun j v u => match j with | 0 => v = mV n n p1 N c1 | 1 => v = mV n n p N cap | 2 => ∃ q c, v = mV n n q N c ∧ Mx 3 cellsF u n n q N c (fun i k => m k i) | 3 => ∃ q c, v = .tuple #[mV n n q N c, .bool true] ∧ Mx 3 cellsF u n n q N c (aroundJ kdF n m f) ∧ Fresh W2.heap.size (.slice q N c) | 4 => ∃ q c, v = .tuple #[mV n n q N c, .bool true] ∧ Mx 3 cellsF u n n q N c (aroundJ kdF n m f) ∧ Fresh W2.heap.size (.slice q N c) | 5 => ∃ q c, v = mV n n q N c ∧ Mx 3 cellsF u n n q N c (aroundJ kdF n m f) ∧ Fresh W2.heap.size (.slice q N c) | 6 => v = .bool true | _ => False)
    (by
        intro j v u u' hb h
        split at h
        · exact h
        · exact h
        · obtain ⟨q, c, e, h1⟩ := h; exact ⟨q, c, e, Mx.later h1 hb⟩
        · obtain ⟨q, c, e, h1, h2⟩ := h; exact ⟨q, c, e, Mx.later h1 hb, h2⟩
        · obtain ⟨q, c, e, h1, h2⟩ := h; exact ⟨q, c, e, Mx.later h1 hb, h2⟩
        · obtain ⟨q, c, e, h1, h2⟩ := h; exact ⟨q, c, e, Mx.later h1 hb, h2⟩
        · exact h
        · exact h) (fun vs u0 u => ∃ q c, MBox u w1.heap.size n n q N c ∧ Mx 3 cellsF u n n q N c (aroundJ kdF n m f) ∧ Fresh W2.heap.size (.slice q N c) ∧ MBox u (w.heap.size + 1 + 1) 0 0 none 0 0 ∧ Bl w u) ?step ?still ?store ?fin)
  case step =>
    intro j o t act u ho hdt hpu hsz hu hfr hin
    have hj : j < 8 := (Array.getElem?_eq_some_iff.1 ho).1
    obtain ⟨x0, x1, x2, _, _, _, _⟩ := km.later hu
    obtain ⟨y0, y1, y2, _, _, _, _⟩ := k1.later hu
    rcases (by omega : j = 0 ∨ j = 1 ∨ j = 2 ∨ j = 3 ∨ j = 4 ∨ j = 5 ∨ j = 6 ∨ j = 7) with rfl | rfl | rfl | rfl | rfl | rfl | rfl | rfl
    · simp only [List.getElem?_toArray, List.getElem?_cons_zero, List.getElem?_cons_succ, Option.some.injEq] at ho
      subst ho
      obtain rfl := Option.some.inj hdt
      have i5 : act.eval (.tmp (5 : Nat)) = .pointer (some ⟨w1.heap.size, 0, none⟩) := hfr 5 (by decide)
      exact plain_wp (by intro c h; cases h) (fun _ _ => trivial) (by simp only [execOp, i5, evalC, evalF, evalG]; simp [go_sem, y0, y1, y2]) ⟨_, rfl, rfl, Bl.refl _⟩
    · simp only [List.getElem?_toArray, List.getElem?_cons_zero, List.getElem?_cons_succ, Option.some.injEq] at ho
      subst ho
      obtain rfl := Option.some.inj hdt
      have i2 : act.eval (.tmp (2 : Nat)) = .pointer (some ⟨w.heap.size, 0, none⟩) := hfr 2 (by decide)
      exact plain_wp (by intro c h; cases h) (fun _ _ => trivial) (by simp only [execOp, i2, evalC, evalF, evalG]; simp [go_sem, x0, x1, x2]) ⟨_, rfl, rfl, Bl.refl _⟩
    · simp only [List.getElem?_toArray, List.getElem?_cons_zero, List.getElem?_cons_succ, Option.some.injEq] at ho
      subst ho
      obtain rfl := Option.some.inj hdt
      have i15 : (act.eval (.tmp (15 : Nat))) = mV n n p N cap := hin ⟨1, .data⟩ (by simp) rfl 15 rfl
      refine enter_wp 88 #[mV n n p N cap] (by intro c h; cases h) (fun _ _ => trivial) (by simp only [execOp, evalC, evalF, evalG, resolve, i15, List.map_toArray, List.map_cons, List.map_nil]; simp [invoke, egT, Result.andThen, go_sem]) (by intro h; cases h) (callsIn_wide.2 (mTurnF n n p N cap m u (HM.out.later (B2.trans hu)))) ?_
      rintro e w' ⟨q, c, rfl, ⟨hM, _, _⟩, hb⟩
      exact ⟨_, rfl, _, rfl, ⟨q, c, rfl, hM⟩, hb⟩
    · simp only [List.getElem?_toArray, List.getElem?_cons_zero, List.getElem?_cons_succ, Option.some.injEq] at ho
      subst ho
      obtain rfl := Option.some.inj hdt
      have i14 : (act.eval (.tmp (14 : Nat))) = mV n n p1 N c1 := hin ⟨0, .data⟩ (by simp) rfl 14 rfl
      have i16 : ∃ q c, (act.eval (.tmp (16 : Nat))) = mV n n q N c ∧ Mx 3 cellsF u n n q N c (fun i k => m k i) := hin ⟨2, .data⟩ (by simp) rfl 16 rfl
      obtain ⟨q0, c0', e1, hq⟩ := i16
      refine enter_wp 87 #[mV n n p1 N c1, mV n n q0 N c0'] (by intro c h; cases h) (fun _ _ => trivial) (by simp only [execOp, evalC, evalF, evalG, resolve, i14, e1, List.map_toArray, List.map_cons, List.map_nil]; simp [invoke, egM, Result.andThen, go_sem]) (by intro h; cases h) (callsIn_wide.2 (mMulF n n n p1 N c1 _ q0 N c0' _ N u (H1.out.later hu) hq HNN.out)) ?_
      rintro e w' ⟨q, c, rfl, ⟨hM, _, hF⟩, hb⟩
      exact ⟨_, rfl, _, rfl, ⟨q, c, rfl, hM, fresh_le hF hu.size⟩, hb⟩
    · simp only [List.getElem?_toArray, List.getElem?_cons_zero, List.getElem?_cons_succ, Option.some.injEq] at ho
      subst ho
      obtain rfl := Option.some.inj hdt
      have i17 : ∃ q c, (act.eval (.tmp (17 : Nat))) = .tuple #[mV n n q N c, .bool true] ∧ Mx 3 cellsF u n n q N c (aroundJ kdF n m f) ∧ Fresh W2.heap.size (.slice q N c) := hin ⟨3, .data⟩ (by simp) rfl 17 rfl
      obtain ⟨q0, c0', e1, hq⟩ := i17
      exact plain_wp (by intro c h; cases h) (fun _ _ => trivial) (by simp only [execOp, e1]; simp [go_sem]) ⟨_, rfl, ⟨q0, c0', rfl, hq⟩, Bl.refl _⟩
    · simp only [List.getElem?_toArray, List.getElem?_cons_zero, List.getElem?_cons_succ, Option.some.injEq] at ho
      subst ho
      obtain rfl := Option.some.inj hdt
      have i13 : ∃ q c, (act.eval (.tmp (13 : Nat))) = .tuple #[mV n n q N c, .bool true] ∧ Mx 3 cellsF u n n q N c (aroundJ kdF n m f) ∧ Fresh W2.heap.size (.slice q N c) := hin ⟨4, .data⟩ (by simp) rfl 13 rfl
      obtain ⟨q0, c0', e1, hq⟩ := i13
      exact plain_wp (by intro c h; cases h) (fun _ _ => trivial) (by simp only [execOp, e1]; simp [go_sem]) ⟨_, rfl, ⟨q0, c0', rfl, hq⟩, Bl.refl _⟩
    · cases hpu
    · simp only [List.getElem?_toArray, List.getElem?_cons_zero, List.getElem?_cons_succ, Option.some.injEq] at ho
      subst ho
      cases hdt
  case still =>
    intro j o t act u0 u ho hdt hpu hsz hu hfr hin
    have hj : j < 8 := (Array.getElem?_eq_some_iff.1 ho).1
    obtain ⟨x0, x1, x2, _, _, _, _⟩ := km.later hu
    obtain ⟨y0, y1, y2, _, _, _, _⟩ := k1.later hu
    rcases (by omega : j = 0 ∨ j = 1 ∨ j = 2 ∨ j = 3 ∨ j = 4 ∨ j = 5 ∨ j = 6 ∨ j = 7) with rfl | rfl | rfl | rfl | rfl | rfl | rfl | rfl
    · cases hpu
    · cases hpu
    · cases hpu
    · cases hpu
    · cases hpu
    · cases hpu
    · simp only [List.getElem?_toArray, List.getElem?_cons_zero, List.getElem?_cons_succ, Option.some.injEq] at ho
      subst ho
      obtain rfl := Option.some.inj hdt
      have i13 : ∃ q c, (act.eval (.tmp (13 : Nat))) = .tuple #[mV n n q N c, .bool true] ∧ Mx 3 cellsF u0 n n q N c (aroundJ kdF n m f) ∧ Fresh W2.heap.size (.slice q N c) := hin ⟨4, .data⟩ (by simp) rfl 13 rfl
      obtain ⟨q0, c0', e1, hq⟩ := i13
      exact plain_wp (by intro c h; cases h) (fun _ _ => trivial) (by simp only [execOp, e1]; simp [go_sem]) ⟨_, rfl, rfl, rfl⟩
    · cases hpu
  case store =>
    intro o act u vs ho hsz hu hfr hin
    simp only [List.getElem?_toArray, List.getElem?_cons_zero, List.getElem?_cons_succ, Option.some.injEq] at ho
    subst ho
    have i5 : act.eval (.tmp (5 : Nat)) = .pointer (some ⟨w1.heap.size, 0, none⟩) := hfr 5 (by decide)
    obtain ⟨i18, k18⟩ : act.eval (.tmp (18 : Nat)) = vs 5 ∧ (∃ q c, (vs 5) = mV n n q N c ∧ Mx 3 cellsF u n n q N c (aroundJ kdF n m f) ∧ Fresh W2.heap.size (.slice q N c)) := hin 5 18 rfl rfl
    obtain ⟨q0, c0', e1, hq, hf⟩ := k18
    rw [e1] at i18
    obtain ⟨y0, y1, y2, e0, e1', e2, lt⟩ := id (k1.later hu)
    exact skip_wp (by intro c h; cases h) (fun _ _ => trivial) (by simp only [execOp, i5, i18]; simp [go_sem, y0, y1, y2, e0, e1', e2]) ⟨rfl, q0, c0', (k1.later hu).fill _ _ _ _ _, mx_put7 hq (fresh_le hf (by omega)) _ _ _, hf, mbox_set7 (mbox_set7 (mbox_set7 (kz.later hu) (by omega) _ _) (by omega) _ _) (by omega) _ _, Bl.put3 (B2.trans hu) (by have := hw1; omega) _ _ _⟩
  case fin =>
    intro vs vb u0 u hu hin hps
    have a0 := hin 0 14 rfl
    have a1 := hin 1 15 rfl
    have a2 := hin 2 16 rfl
    have a3 := hin 3 17 rfl
    have a4 := hin 4 13 rfl
    have a5 := hin 5 18 rfl
    have a6 := hin 6 19 rfl
    simp only [putL, Act.put, List.setIfInBounds_toArray, List.set_cons_zero, List.set_cons_succ, Nat.zero_add, Nat.reduceAdd, Nat.reduceBEq, Bool.or_false, Bool.or_true, Bool.false_or, Bool.true_or, Bool.false_eq_true, if_false, if_true, reduceIte, Nat.reduceEqDiff, beq_self_eq_true, Bool.or_self] at a0 a1 a2 a3 a4 a5 a6 ⊢
    rw [if_pos (by decide)] at hps
    simp only [a0, a1, a6]
    obtain ⟨q, c, kx, hM, hF, kz', hbw⟩ := hps
    clear a2 a3 a4 a5
    have HR := hideP hM
    have HF := hideP (show Fresh (w.heap.size + 1 + 1 + 1) (.slice q N c) from fresh_le hF (by omega))
    clear hM hF
    obtain ⟨x0, x1, x2, _, _, _, _⟩ := kx
    obtain ⟨c0, c1', c2, f0, f1, f2, lt2⟩ := kz'
    go_wp2
    simp [bodyPost, results, Tryz.results44, go_sem, c0, c1', c2]
    exact ⟨q, c, ⟨rfl, rfl⟩, ⟨mx_put7 HR.out HF.out _ _ _, fresh_le HF.out (by omega)⟩, Bl.put3 hbw (by omega) _ _ _⟩
set_option maxRecDepth 100000 in
set_option maxHeartbeats 2000000 in
theorem jMirroredF (n N : Nat) (p : Option Addr) (cap : Nat) (a : Nat → Nat → Fr) (q2 : Option Addr) (cap2 : Nat) (b : Nat → Nat → Fr) (w : World) (hm : Mx 3 cellsF w n n p N cap a) (hf : Mx 3 cellsF w n n q2 N cap2 b) :
    Calls Tryz.prog 46 #[mV n n p N cap, mV n n q2 N cap2] w fun e w' => ∃ q c, e = .returned (mV n n q N c) ∧ (Mx 3 cellsF w' n n q N c (mirrJ kdF a b) ∧ Fresh w.heap.size (.slice q N c)) ∧ Bl w w' := by
  obtain ⟨W, hW⟩ : ∃ W, W = ((w.alloc (.cells #[.int .i64 n, .int .i64 n, .slice p N cap] 30)).alloc (.cells #[.int .i64 n, .int .i64 n, .slice q2 N cap2] 30)).alloc (.cells #[.int .i64 0, .int .i64 0, .slice none 0 0] 30) := ⟨_, rfl⟩
  have b0 : Bl w W := by rw [hW]; exact (((Bl.refl _).alloc _).alloc _).alloc _
  have z0 : MBox W (w.heap.size + 1 + 1) 0 0 none 0 0 := by rw [hW]; have := MBox.new ((w.alloc (.cells #[.int .i64 n, .int .i64 n, .slice p N cap] 30)).alloc (.cells #[.int .i64 n, .int .i64 n, .slice q2 N cap2] 30)) 0 0 none 0 0 30; rw [World.size_alloc, World.size_alloc] at this; exact this
  have hs : W.heap.size = w.heap.size + 1 + 1 + 1 := by rw [hW]; simp
  have HM := hideP hm
  have HFX := hideP hf
  have HW := hideP hW
  clear hW hm hf
  go_enter Tryz.func46, Tryz.ntmps46
  go_wp2_with fail
  rw [← HW.out]
  refine (mAddF' n n p q2 N cap cap2 a b W (HM.out.later b0) (HFX.out.later b0)).mono ?_
  rintro e w1 ⟨p1, c1, rfl, ⟨h1x, _⟩, h1⟩
  obtain ⟨W2, hW2⟩ : ∃ W2, W2 = w1.alloc (.cells #[.int .i64 n, .int .i64 n, .slice p1 N c1] 30) := ⟨_, rfl⟩
  have b2 : Bl w1 W2 := by rw [hW2]; exact (Bl.refl _).alloc _
  have HW2 := hideP hW2
  have H1 := hideP (Mx.later h1x b2)
  clear hW2 h1x
  go_wp2_with fail
  rw [← HW2.out]
  refine (mMirrorF n p1 N c1 _ W2 H1.out).mono ?_
  rintro e w3 ⟨p3, c3, rfl, ⟨hR, _, hF⟩, h3⟩
  obtain ⟨W4, hW4⟩ : ∃ W4, W4 = w3.alloc (.cells #[.int .i64 n, .int .i64 n, .slice p3 N c3] 30) := ⟨_, rfl⟩
  have b4 : Bl w3 W4 := by rw [hW4]; exact (Bl.refl _).alloc _
  have k4 := MBox.new w3 n n p3 N c3 30
  rw [← hW4] at k4
  have B4 : Bl w W4 := b0.trans (h1.trans (b2.trans (h3.trans b4)))
  have HR := hideP (show Mx 3 cellsF W4 n n p3 N c3 (mirrJ kdF a b) from Mx.later hR b4)
  have HF := hideP (show Fresh (w.heap.size + 1 + 1 + 1) (.slice p3 N c3) from fresh_le hF (by have := (h1.trans b2).size; omega))
  have kz := z0.later (h1.trans (b2.trans (h3.trans b4)))
  obtain ⟨x0, x1, x2, _, _, _, _⟩ := k4
  obtain ⟨c0, c1', c2, f0, f1, f2, lt2⟩ := kz
  have HW4 := hideP hW4
  rw [hW4] at x0 x1 x2 c0 c1' c2 f0 f1 f2
  clear hW4 hR hF H1
  go_wp2_with fail
  rw [← HW4.out]
  rw [← HW4.out] at x0 x1 x2 c0 c1' c2 f0 f1 f2
  go_wp2
  simp [bodyPost, results, Tryz.results46, go_sem, c0, c1', c2]
  exact ⟨p3, c3, ⟨rfl, rfl⟩, ⟨mx_put7 HR.out HF.out _ _ _, fresh_le HF.out (by omega)⟩, Bl.put3 B4 (by omega) _ _ _⟩
end Go.Proofs.YtljmggemdkfbiaaGreat
