/- Contract of joseph's Predict, of fractions (layer 9). Written by genJo.py. -/
import Derived.Test.YthnadgbloamlaaaGreatEA
import Derived.Test.YthnadgbloamlaaaGreatMaY0
import Derived.Test.YthnadgbloamlaaaGreatHsM
import Derived.Laws.IdiomCopy
import Derived.Laws.EntriesVeiled
import Derived.Test.YthnadgbloamlaaaGreatVeHF
/- Contracts of joseph's New, around, mirrored, of fractions (layer 9). Written by genJo.py. -/
namespace Go.Proofs.YthnadgbloamlaaaGreat
open Go.RowKit
set_option linter.unusedSimpArgs false
set_option linter.unusedVariables false

theorem Tryz.buildSF (q : Option Addr) (n c : Nat) (r d : Int) (p : Option Addr) (N cap : Nat) (u : World) : (Instr.build 66 #[(0, .slice q n c), (1, mV r d p N cap)]).run Tryz.prog u = .ok (sJ q n c r d p N cap) u := by kernel_rfl
theorem rw_put4F {w : World} {v : Value} {xs : List Fr} {b : Nat} (h : Rw 3 cellsF w v xs) (hf : Fresh (b + 1) v) (v0 v1 v2 v3 : Value) : Rw 3 cellsF ((((w.setCell ⟨b, 0, none⟩ v0).setCell ⟨b, 1, none⟩ v1).setCell ⟨b, 2, none⟩ v2).setCell ⟨b, 3, none⟩ v3) v xs := by
  rcases h with h | ⟨g, o, cap, rfl, hc, hb, hx⟩
  · exact .inl h
  · have hne : b + 1 ≤ g := hf g rfl
    have hk : ((((w.setCell ⟨b, 0, none⟩ v0).setCell ⟨b, 1, none⟩ v1).setCell ⟨b, 2, none⟩ v2).setCell ⟨b, 3, none⟩ v3).heap[g]? = w.heap[g]? := by
      rw [Below.heap_setCell _ _ _ g (by show g ≠ b; omega), Below.heap_setCell _ _ _ g (by show g ≠ b; omega), Below.heap_setCell _ _ _ g (by show g ≠ b; omega), Below.heap_setCell _ _ _ g (by show g ≠ b; omega)]
    exact .inr ⟨g, o, cap, rfl, hc, by simpa using hb, fun j x hj k v hv => (World.cell?_of_block (a := ⟨g, o + j * 3 + k, none⟩) hk).trans (hx j x hj k v hv)⟩
theorem clone_linF (px : Option Addr) (n cx : Nat) (x : Nat → Fr) (w : World) (h : Rq 3 cellsF w (.slice px n cx) (linJ n x)) (hl : n ≤ 1000000) :
    Calls Tryz.prog 113 #[.slice px n cx] w fun e w' => ∃ q c, e = .returned (.slice q n c) ∧ (Rw 3 cellsF w' (.slice q n c) (linJ n x) ∧ Fresh w.heap.size (.slice q n c)) ∧ Bl w w' :=
  (vCloneF _ _ w h (by rw [linJ_len]; exact hl)).mono fun e w' ⟨u, he, hr, hf, hb⟩ => by
    obtain ⟨q, c, rfl, _, _⟩ := hr.cut
    rw [linJ_len] at hr hf he
    exact ⟨q, c, he, ⟨hr, hf⟩, hb⟩
set_option maxRecDepth 100000 in
set_option maxHeartbeats 2000000 in
theorem jNewF (n : Nat) (px : Option Addr) (cx : Nat) (x : Nat → Fr) (p : Option Addr) (N cap : Nat) (f : Nat → Nat → Fr) (w : World) (hx : Rq 3 cellsF w (.slice px n cx) (linJ n x)) (h : Mx 3 cellsF w n n p N cap f) (h4 : n ≤ 4) :
    Calls Tryz.prog 49 #[.slice px n cx, mV n n p N cap] w fun e w' => ∃ q c p' c', e = .returned (.tuple #[sJ q n c n n p' N c', .bool true]) ∧ (Rw 3 cellsF w' (.slice q n c) (linJ n x) ∧ Mx 3 cellsF w' n n p' N c' (squareJ kdF n f)) ∧ Bl w w' := by
  have fm : Tryz.prog.follows .mixedOrders = true := by kernel_rfl
  have egC := enters_of Tryz.func113 (by kernel_rfl) rfl
  have hfit := fitJ_dim h.1 h.2.1 h4
  obtain ⟨W, hW⟩ : ∃ W, W = (w.alloc (.cells #[.int .i64 n, .int .i64 n, .slice p N cap] 60)).alloc (.cells #[.slice none 0 0, .int .i64 0, .int .i64 0, .slice none 0 0] 66) := ⟨_, rfl⟩
  have b0 : Bl w W := by rw [hW]; exact ((Bl.refl _).alloc _).alloc _
  have m0 : MBox W w.heap.size n n p N cap := by rw [hW]; exact (MBox.new w _ _ _ _ _ _).later ((Bl.refl _).alloc _)
  have s0 : SBox W (w.heap.size + 1) none 0 0 0 0 none 0 0 := by rw [hW]; have := SBox.new (w.alloc (.cells #[.int .i64 n, .int .i64 n, .slice p N cap] 60)) none 0 0 0 0 none 0 0 66; rw [World.size_alloc] at this; exact this
  have hs : W.heap.size = w.heap.size + 1 + 1 := by rw [hW]; simp
  have HX := hideP hx
  have HMX := hideP h
  have HW := hideP hW
  clear hW hx h
  go_enter Tryz.func49, Tryz.ntmps49
  go_wp2_with fail
  rw [← HW.out]
  refine (jFitsF _ _ _ _ _ _ _).mono ?_
  rintro e w1 ⟨rfl, h1⟩
  rw [hfit]
  obtain ⟨c0, c1, cm, f0, f1, f2, lt⟩ := m0.later h1
  have b01 := b0.trans h1
  go_wp2_with fail
  refine (tSqF n p N cap f w1 (HMX.out.later b01)).mono ?_
  rintro e w2 ⟨p2, c2, rfl, ⟨hP, hF⟩, h2⟩
  have k2 := MBox.new w2 n n p2 N c2 60
  obtain ⟨W2, hW2⟩ : ∃ W2, W2 = w2.alloc (.cells #[.int .i64 n, .int .i64 n, .slice p2 N c2] 60) := ⟨_, rfl⟩
  have b2 : Bl w2 W2 := by rw [hW2]; exact (Bl.refl _).alloc _
  rw [← hW2] at k2
  have HW2 := hideP hW2
  have B2 : Bl w W2 := b01.trans (h2.trans b2)
  have s2 := s0.later (h1.trans (h2.trans b2))
  have hsz : w.heap.size + 1 + 1 ≤ W2.heap.size := by have := (h1.trans (h2.trans b2)).size; omega
  have HP := hideP (show Mx 3 cellsF W2 n n p2 N c2 (squareJ kdF n f) from Mx.later hP b2)
  have HF := hideP (show Fresh (w.heap.size + 1 + 1) (.slice p2 N c2) from fresh_le hF (by have := h1.size; omega))
  have CL := hideP (fun u (hu : Bl W2 u) => clone_linF px n cx x u (HX.out.later (B2.trans hu)) (by have := h4; omega))
  clear hW2 hP hF c0 c1 cm f0 f1 f2 lt
  go_wp2_with fail
  rw [← HW2.out]
  refine (wpIn_wide (n := 8)).1 (region_q fm [some 19, some 20, some 21, some 22, none, some 5] (fun j => j == 5) 4 (by kernel_rfl) (by rfl)
    (fun j v u => match j with | 0 => v = .slice px n cx | 1 => ∃ q c, v = .slice q n c ∧ Rw 3 cellsF u (.slice q n c) (linJ n x) ∧ Fresh W2.heap.size (.slice q n c) | 2 => v = mV n n p2 N c2 | 3 => ∃ q c, v = sJ q n c n n p2 N c2 ∧ Rw 3 cellsF u (.slice q n c) (linJ n x) ∧ Fresh W2.heap.size (.slice q n c) | 5 => v = .bool true | _ => False)
    (by
        intro j v u u' hb h
        split at h <;> first | exact h | (obtain ⟨q, c, e, h1, h2⟩ := h; exact ⟨q, c, e, h1.later hb, h2⟩)) (fun vs u0 u => ∃ q c, SBox u (w.heap.size + 1) q n c n n p2 N c2 ∧ Rw 3 cellsF u (.slice q n c) (linJ n x) ∧ Mx 3 cellsF u n n p2 N c2 (squareJ kdF n f) ∧ Bl w u) ?step ?still ?store ?fin)
  case step =>
    intro j o t act u ho hdt hpu hsz hu hfr hin
    have hj : j < 6 := (Array.getElem?_eq_some_iff.1 ho).1
    obtain ⟨y0, y1, y2, _, _, _, _⟩ := k2.later hu
    rcases (by omega : j = 0 ∨ j = 1 ∨ j = 2 ∨ j = 3 ∨ j = 4 ∨ j = 5) with rfl | rfl | rfl | rfl | rfl | rfl
    · simp only [List.getElem?_toArray, List.getElem?_cons_zero, List.getElem?_cons_succ, Option.some.injEq] at ho
      subst ho
      obtain rfl := Option.some.inj hdt
      have i0 : act.eval (.tmp (0 : Nat)) = .slice px n cx := hfr 0 (by decide)
      exact plain_wp (by intro c h; cases h) (fun _ _ => trivial) (by simp only [execOp, i0, evalC, evalF, evalG]; simp [go_sem]) ⟨_, rfl, rfl, Bl.refl _⟩
    · simp only [List.getElem?_toArray, List.getElem?_cons_zero, List.getElem?_cons_succ, Option.some.injEq] at ho
      subst ho
      obtain rfl := Option.some.inj hdt
      have i19 : (act.eval (.tmp (19 : Nat))) = .slice px n cx := hin ⟨0, .data⟩ (by simp) rfl 19 rfl
      refine enter_wp 113 #[.slice px n cx] (by intro c h; cases h) (fun _ _ => trivial) (by simp only [execOp, evalC, evalF, evalG, resolve, i19, List.map_toArray, List.map_cons, List.map_nil]; simp [invoke, egC, Result.andThen, go_sem]) (by intro h; cases h) (callsIn_wide.2 (CL.out u hu)) ?_
      rintro e w' ⟨q, c, rfl, ⟨hR, hF⟩, hb⟩
      exact ⟨_, rfl, _, rfl, ⟨q, c, rfl, hR, fresh_le hF hu.size⟩, hb⟩
    · simp only [List.getElem?_toArray, List.getElem?_cons_zero, List.getElem?_cons_succ, Option.some.injEq] at ho
      subst ho
      obtain rfl := Option.some.inj hdt
      have i6 : act.eval (.tmp (6 : Nat)) = .pointer (some ⟨w2.heap.size, 0, none⟩) := hfr 6 (by decide)
      exact plain_wp (by intro c h; cases h) (fun _ _ => trivial) (by simp only [execOp, i6, evalC, evalF, evalG]; simp [go_sem, y0, y1, y2]) ⟨_, rfl, rfl, Bl.refl _⟩
    · simp only [List.getElem?_toArray, List.getElem?_cons_zero, List.getElem?_cons_succ, Option.some.injEq] at ho
      subst ho
      obtain rfl := Option.some.inj hdt
      have i20 : ∃ q c, (act.eval (.tmp (20 : Nat))) = .slice q n c ∧ Rw 3 cellsF u (.slice q n c) (linJ n x) ∧ Fresh W2.heap.size (.slice q n c) := hin ⟨1, .data⟩ (by simp) rfl 20 rfl
      have i21 : (act.eval (.tmp (21 : Nat))) = mV n n p2 N c2 := hin ⟨2, .data⟩ (by simp) rfl 21 rfl
      obtain ⟨q0, c0', e1, hq, hf⟩ := i20
      exact plain_wp (by intro c h; cases h) (fun _ _ => trivial) (by simp only [execOp, List.map_toArray, List.map_cons, List.map_nil, e1, i21]; simp [Tryz.buildSF, Result.andThen, go_sem]) ⟨_, rfl, ⟨q0, c0', rfl, hq, hf⟩, Bl.refl _⟩
    · simp only [List.getElem?_toArray, List.getElem?_cons_zero, List.getElem?_cons_succ, Option.some.injEq] at ho
      subst ho
      cases hdt
    · cases hpu
  case still =>
    intro j o t act u0 u ho hdt hpu hsz hu hfr hin
    have hj : j < 6 := (Array.getElem?_eq_some_iff.1 ho).1
    obtain ⟨y0, y1, y2, _, _, _, _⟩ := k2.later hu
    rcases (by omega : j = 0 ∨ j = 1 ∨ j = 2 ∨ j = 3 ∨ j = 4 ∨ j = 5) with rfl | rfl | rfl | rfl | rfl | rfl
    · cases hpu
    · cases hpu
    · cases hpu
    · cases hpu
    · cases hpu
    · simp only [List.getElem?_toArray, List.getElem?_cons_zero, List.getElem?_cons_succ, Option.some.injEq] at ho
      subst ho
      obtain rfl := Option.some.inj hdt
      exact plain_wp (by intro c h; cases h) (fun _ _ => trivial) (by simp only [execOp, evalC, evalF, evalG]; simp [go_sem]) ⟨_, rfl, rfl, rfl⟩
  case store =>
    intro o act u vs ho hsz hu hfr hin
    simp only [List.getElem?_toArray, List.getElem?_cons_zero, List.getElem?_cons_succ, Option.some.injEq] at ho
    subst ho
    have i4 : act.eval (.tmp (4 : Nat)) = .pointer (some ⟨w.heap.size + 1, 0, none⟩) := hfr 4 (by decide)
    obtain ⟨i22, k22⟩ : act.eval (.tmp (22 : Nat)) = vs 3 ∧ (∃ q c, (vs 3) = sJ q n c n n p2 N c2 ∧ Rw 3 cellsF u (.slice q n c) (linJ n x) ∧ Fresh W2.heap.size (.slice q n c)) := hin 3 22 rfl rfl
    obtain ⟨q0, c0', e1, hq, hf⟩ := k22
    rw [e1] at i22
    obtain ⟨c0, c1, c2', c3, f0, f1, f2, f3, lt⟩ := id (s2.later hu)
    exact skip_wp (by intro c h; cases h) (fun _ _ => trivial) (by simp only [execOp, i4, i22]; simp [go_sem, c0, c1, c2', c3, f0, f1, f2, f3]) ⟨rfl, q0, c0', (s2.later hu).fill _ _ _ _ _ _ _ _, rw_put4F hq (fresh_le hf (by omega)) _ _ _ _, mx_put4 (HP.out.later hu) HF.out _ _ _ _, Bl.put4 (B2.trans hu) (Nat.le_succ _) _ _ _ _⟩
  case fin =>
    intro vs vb u0 u hu hin hps
    have a0 := hin 0 19 rfl
    have a1 := hin 1 20 rfl
    have a2 := hin 2 21 rfl
    have a3 := hin 3 22 rfl
    have a5 := hin 5 5 rfl
    simp only [putL, Act.put, List.setIfInBounds_toArray, List.set_cons_zero, List.set_cons_succ, Nat.zero_add, Nat.reduceAdd, Nat.reduceBEq, Bool.or_false, Bool.or_true, Bool.false_or, Bool.true_or, Bool.false_eq_true, if_false, if_true, reduceIte, Nat.reduceEqDiff, beq_self_eq_true, Bool.or_self] at a0 a1 a2 a3 a5 ⊢
    rw [if_pos (by decide)] at hps
    simp only [a0, a2, a5]
    obtain ⟨q, c, sx, hR, hM, hbw⟩ := hps
    clear a1 a3
    have HR := hideP hR
    have HM := hideP hM
    clear hR hM
    obtain ⟨c0, c1, c2', c3, f0, f1, f2, f3, lt⟩ := sx
    go_wp2
    simp [bodyPost, results, Tryz.results49, go_sem, c0, c1, c2', c3]
    exact ⟨q, c, p2, c2, by simp, ⟨HR.out, HM.out⟩, hbw⟩
set_option maxRecDepth 100000 in
set_option maxHeartbeats 2000000 in
theorem jAroundF (n N : Nat) (p : Option Addr) (cap : Nat) (m : Nat → Nat → Fr) (q2 : Option Addr) (cap2 : Nat) (f : Nat → Nat → Fr) (w : World) (hm : Mx 3 cellsF w n n p N cap m) (hf : Mx 3 cellsF w n n q2 N cap2 f) :
    Calls Tryz.prog 91 #[mV n n p N cap, mV n n q2 N cap2] w fun e w' => ∃ q c, e = .returned (mV n n q N c) ∧ (Mx 3 cellsF w' n n q N c (aroundJ kdF n m f) ∧ Fresh w.heap.size (.slice q N c)) ∧ Bl w w' := by
  have fm : Tryz.prog.follows .mixedOrders = true := by kernel_rfl
  have egT := enters_of Tryz.func148 (by kernel_rfl) rfl
  have egM := enters_of Tryz.func147 (by kernel_rfl) rfl
  have HNN := hideP (show N = n * n from hm.2.1)
  obtain ⟨W, hW⟩ : ∃ W, W = ((w.alloc (.cells #[.int .i64 n, .int .i64 n, .slice p N cap] 60)).alloc (.cells #[.int .i64 n, .int .i64 n, .slice q2 N cap2] 60)).alloc (.cells #[.int .i64 0, .int .i64 0, .slice none 0 0] 60) := ⟨_, rfl⟩
  have b0 : Bl w W := by rw [hW]; exact (((Bl.refl _).alloc _).alloc _).alloc _
  have m0 : MBox W w.heap.size n n p N cap := by rw [hW]; exact (MBox.new w _ _ _ _ _ _).later (((Bl.refl _).alloc _).alloc _)
  have z0 : MBox W (w.heap.size + 1 + 1) 0 0 none 0 0 := by rw [hW]; have := MBox.new ((w.alloc (.cells #[.int .i64 n, .int .i64 n, .slice p N cap] 60)).alloc (.cells #[.int .i64 n, .int .i64 n, .slice q2 N cap2] 60)) 0 0 none 0 0 60; rw [World.size_alloc, World.size_alloc] at this; exact this
  have hs : W.heap.size = w.heap.size + 1 + 1 + 1 := by rw [hW]; simp
  have HM := hideP hm
  have HFX := hideP hf
  have HW := hideP hW
  clear hW hm hf
  go_enter Tryz.func91, Tryz.ntmps91
  go_wp2_with fail
  rw [← HW.out]
  refine (mMulF n n n p N cap m q2 N cap2 f N W (HM.out.later b0) (HFX.out.later b0) HNN.out).mono ?_
  rintro e w1 ⟨p1, c1, rfl, ⟨h1x, _, _⟩, h1⟩
  have k1 := MBox.new w1 n n p1 N c1 60
  obtain ⟨W2, hW2⟩ : ∃ W2, W2 = w1.alloc (.cells #[.int .i64 n, .int .i64 n, .slice p1 N c1] 60) := ⟨_, rfl⟩
  have b2 : Bl w1 W2 := by rw [hW2]; exact (Bl.refl _).alloc _
  rw [← hW2] at k1
  have hs2 : W2.heap.size = w1.heap.size + 1 := by rw [hW2]; simp
  have hw1 : w.heap.size + 1 + 1 + 1 ≤ w1.heap.size := by have := h1.size; omega
  have HW2 := hideP hW2
  have B2 : Bl w W2 := b0.trans (h1.trans b2)
  have km := m0.later (h1.trans b2)
  have kz := z0.later (h1.trans b2)
  have H1 := hideP (Mx.later h1x b2)
  clear hW2 h1x
  go_wp2_with fail
  rw [← HW2.out]
  refine (wpIn_wide (n := 8)).1 (region_q fm [some 14, some 15, some 16, some 17, some 13, some 18, some 19, none] (fun j => j == 6) 7 (by kernel_rfl) (by rfl)
    (fun j v u => match j with | 0 => v = mV n n p1 N c1 | 1 => v = mV n n p N cap | 2 => ∃ q c, v = mV n n q N c ∧ Mx 3 cellsF u n n q N c (fun i k => m k i) | 3 => ∃ q c, v = .tuple #[mV n n q N c, .bool true] ∧ Mx 3 cellsF u n n q N c (aroundJ kdF n m f) ∧ Fresh W2.heap.size (.slice q N c) | 4 => ∃ q c, v = .tuple #[mV n n q N c, .bool true] ∧ Mx 3 cellsF u n n q N c (aroundJ kdF n m f) ∧ Fresh W2.heap.size (.slice q N c) | 5 => ∃ q c, v = mV n n q N c ∧ Mx 3 cellsF u n n q N c (aroundJ kdF n m f) ∧ Fresh W2.heap.size (.slice q N c) | 6 => v = .bool true | _ => False)
    (by
        intro j v u u' hb h
        split at h
        · exact h
        · exact h
        · obtain ⟨q, c, e, h1⟩ := h; exact ⟨q, c, e, Mx.later h1 hb⟩
        · obtain ⟨q, c, e, h1, h2⟩ := h; exact ⟨q, c, e, Mx.later h1 hb, h2⟩
        · obtain ⟨q, c, e, h1, h2⟩ := h; exact ⟨q, c, e, Mx.later h1 hb, h2⟩
        · obtain ⟨q, c, e, h1, h2⟩ := h; exact ⟨q, c, e, Mx.later h1 hb, h2⟩
        · exact h
        · exact h) (fun vs u0 u => ∃ q c, MBox u w1.heap.size n n q N c ∧ Mx 3 cellsF u n n q N c (aroundJ kdF n m f) ∧ Fresh W2.heap.size (.slice q N c) ∧ MBox u (w.heap.size + 1 + 1) 0 0 none 0 0 ∧ Bl w u) ?step ?still ?store ?fin)
  case step =>
    intro j o t act u ho hdt hpu hsz hu hfr hin
    have hj : j < 8 := (Array.getElem?_eq_some_iff.1 ho).1
    obtain ⟨x0, x1, x2, _, _, _, _⟩ := km.later hu
    obtain ⟨y0, y1, y2, _, _, _, _⟩ := k1.later hu
    rcases (by omega : j = 0 ∨ j = 1 ∨ j = 2 ∨ j = 3 ∨ j = 4 ∨ j = 5 ∨ j = 6 ∨ j = 7) with rfl | rfl | rfl | rfl | rfl | rfl | rfl | rfl
    · simp only [List.getElem?_toArray, List.getElem?_cons_zero, List.getElem?_cons_succ, Option.some.injEq] at ho
      subst ho
      obtain rfl := Option.some.inj hdt
      have i5 : act.eval (.tmp (5 : Nat)) = .pointer (some ⟨w1.heap.size, 0, none⟩) := hfr 5 (by decide)
      exact plain_wp (by intro c h; cases h) (fun _ _ => trivial) (by simp only [execOp, i5, evalC, evalF, evalG]; simp [go_sem, y0, y1, y2]) ⟨_, rfl, rfl, Bl.refl _⟩
    · simp only [List.getElem?_toArray, List.getElem?_cons_zero, List.getElem?_cons_succ, Option.some.injEq] at ho
      subst ho
      obtain rfl := Option.some.inj hdt
      have i2 : act.eval (.tmp (2 : Nat)) = .pointer (some ⟨w.heap.size, 0, none⟩) := hfr 2 (by decide)
      exact plain_wp (by intro c h; cases h) (fun _ _ => trivial) (by simp only [execOp, i2, evalC, evalF, evalG]; simp [go_sem, x0, x1, x2]) ⟨_, rfl, rfl, Bl.refl _⟩
    · simp only [List.getElem?_toArray, List.getElem?_cons_zero, List.getElem?_cons_succ, Option.some.injEq] at ho
      subst ho
      obtain rfl := Option.some.inj hdt
      have i15 : (act.eval (.tmp (15 : Nat))) = mV n n p N cap := hin ⟨1, .data⟩ (by simp) rfl 15 rfl
      refine enter_wp 148 #[mV n n p N cap] (by intro c h; cases h) (fun _ _ => trivial) (by simp only [execOp, evalC, evalF, evalG, resolve, i15, List.map_toArray, List.map_cons, List.map_nil]; simp [invoke, egT, Result.andThen, go_sem]) (by intro h; cases h) (callsIn_wide.2 (mTurnF n n p N cap m u (HM.out.later (B2.trans hu)))) ?_
      rintro e w' ⟨q, c, rfl, ⟨hM, _, _⟩, hb⟩
      exact ⟨_, rfl, _, rfl, ⟨q, c, rfl, hM⟩, hb⟩
    · simp only [List.getElem?_toArray, List.getElem?_cons_zero, List.getElem?_cons_succ, Option.some.injEq] at ho
      subst ho
      obtain rfl := Option.some.inj hdt
      have i14 : (act.eval (.tmp (14 : Nat))) = mV n n p1 N c1 := hin ⟨0, .data⟩ (by simp) rfl 14 rfl
      have i16 : ∃ q c, (act.eval (.tmp (16 : Nat))) = mV n n q N c ∧ Mx 3 cellsF u n n q N c (fun i k => m k i) := hin ⟨2, .data⟩ (by simp) rfl 16 rfl
      obtain ⟨q0, c0', e1, hq⟩ := i16
      refine enter_wp 147 #[mV n n p1 N c1, mV n n q0 N c0'] (by intro c h; cases h) (fun _ _ => trivial) (by simp only [execOp, evalC, evalF, evalG, resolve, i14, e1, List.map_toArray, List.map_cons, List.map_nil]; simp [invoke, egM, Result.andThen, go_sem]) (by intro h; cases h) (callsIn_wide.2 (mMulF n n n p1 N c1 _ q0 N c0' _ N u (H1.out.later hu) hq HNN.out)) ?_
      rintro e w' ⟨q, c, rfl, ⟨hM, _, hF⟩, hb⟩
      exact ⟨_, rfl, _, rfl, ⟨q, c, rfl, hM, fresh_le hF hu.size⟩, hb⟩
    · simp only [List.getElem?_toArray, List.getElem?_cons_zero, List.getElem?_cons_succ, Option.some.injEq] at ho
      subst ho
      obtain rfl := Option.some.inj hdt
      have i17 : ∃ q c, (act.eval (.tmp (17 : Nat))) = .tuple #[mV n n q N c, .bool true] ∧ Mx 3 cellsF u n n q N c (aroundJ kdF n m f) ∧ Fresh W2.heap.size (.slice q N c) := hin ⟨3, .data⟩ (by simp) rfl 17 rfl
      obtain ⟨q0, c0', e1, hq⟩ := i17
      exact plain_wp (by intro c h; cases h) (fun _ _ => trivial) (by simp only [execOp, e1]; simp [go_sem]) ⟨_, rfl, ⟨q0, c0', rfl, hq⟩, Bl.refl _⟩
    · simp only [List.getElem?_toArray, List.getElem?_cons_zero, List.getElem?_cons_succ, Option.some.injEq] at ho
      subst ho
      obtain rfl := Option.some.inj hdt
      have i13 : ∃ q c, (act.eval (.tmp (13 : Nat))) = .tuple #[mV n n q N c, .bool true] ∧ Mx 3 cellsF u n n q N c (aroundJ kdF n m f) ∧ Fresh W2.heap.size (.slice q N c) := hin ⟨4, .data⟩ (by simp) rfl 13 rfl
      obtain ⟨q0, c0', e1, hq⟩ := i13
      exact plain_wp (by intro c h; cases h) (fun _ _ => trivial) (by simp only [execOp, e1]; simp [go_sem]) ⟨_, rfl, ⟨q0, c0', rfl, hq⟩, Bl.refl _⟩
    · cases hpu
    · simp only [List.getElem?_toArray, List.getElem?_cons_zero, List.getElem?_cons_succ, Option.some.injEq] at ho
      subst ho
      cases hdt
  case still =>
    intro j o t act u0 u ho hdt hpu hsz hu hfr hin
    have hj : j < 8 := (Array.getElem?_eq_some_iff.1 ho).1
    obtain ⟨x0, x1, x2, _, _, _, _⟩ := km.later hu
    obtain ⟨y0, y1, y2, _, _, _, _⟩ := k1.later hu
    rcases (by omega : j = 0 ∨ j = 1 ∨ j = 2 ∨ j = 3 ∨ j = 4 ∨ j = 5 ∨ j = 6 ∨ j = 7) with rfl | rfl | rfl | rfl | rfl | rfl | rfl | rfl
    · cases hpu
    · cases hpu
    · cases hpu
    · cases hpu
    · cases hpu
    · cases hpu
    · simp only [List.getElem?_toArray, List.getElem?_cons_zero, List.getElem?_cons_succ, Option.some.injEq] at ho
      subst ho
      obtain rfl := Option.some.inj hdt
      have i13 : ∃ q c, (act.eval (.tmp (13 : Nat))) = .tuple #[mV n n q N c, .bool true] ∧ Mx 3 cellsF u0 n n q N c (aroundJ kdF n m f) ∧ Fresh W2.heap.size (.slice q N c) := hin ⟨4, .data⟩ (by simp) rfl 13 rfl
      obtain ⟨q0, c0', e1, hq⟩ := i13
      exact plain_wp (by intro c h; cases h) (fun _ _ => trivial) (by simp only [execOp, e1]; simp [go_sem]) ⟨_, rfl, rfl, rfl⟩
    · cases hpu
  case store =>
    intro o act u vs ho hsz hu hfr hin
    simp only [List.getElem?_toArray, List.getElem?_cons_zero, List.getElem?_cons_succ, Option.some.injEq] at ho
    subst ho
    have i5 : act.eval (.tmp (5 : Nat)) = .pointer (some ⟨w1.heap.size, 0, none⟩) := hfr 5 (by decide)
    obtain ⟨i18, k18⟩ : act.eval (.tmp (18 : Nat)) = vs 5 ∧ (∃ q c, (vs 5) = mV n n q N c ∧ Mx 3 cellsF u n n q N c (aroundJ kdF n m f) ∧ Fresh W2.heap.size (.slice q N c)) := hin 5 18 rfl rfl
    obtain ⟨q0, c0', e1, hq, hf⟩ := k18
    rw [e1] at i18
    obtain ⟨y0, y1, y2, e0, e1', e2, lt⟩ := id (k1.later hu)
    exact skip_wp (by intro c h; cases h) (fun _ _ => trivial) (by simp only [execOp, i5, i18]; simp [go_sem, y0, y1, y2, e0, e1', e2]) ⟨rfl, q0, c0', (k1.later hu).fill _ _ _ _ _, mx_put7 hq (fresh_le hf (by omega)) _ _ _, hf, mbox_set7 (mbox_set7 (mbox_set7 (kz.later hu) (by omega) _ _) (by omega) _ _) (by omega) _ _, Bl.put3 (B2.trans hu) (by have := hw1; omega) _ _ _⟩
  case fin =>
    intro vs vb u0 u hu hin hps
    have a0 := hin 0 14 rfl
    have a1 := hin 1 15 rfl
    have a2 := hin 2 16 rfl
    have a3 := hin 3 17 rfl
    have a4 := hin 4 13 rfl
    have a5 := hin 5 18 rfl
    have a6 := hin 6 19 rfl
    simp only [putL, Act.put, List.setIfInBounds_toArray, List.set_cons_zero, List.set_cons_succ, Nat.zero_add, Nat.reduceAdd, Nat.reduceBEq, Bool.or_false, Bool.or_true, Bool.false_or, Bool.true_or, Bool.false_eq_true, if_false, if_true, reduceIte, Nat.reduceEqDiff, beq_self_eq_true, Bool.or_self] at a0 a1 a2 a3 a4 a5 a6 ⊢
    rw [if_pos (by decide)] at hps
    simp only [a0, a1, a6]
    obtain ⟨q, c, kx, hM, hF, kz', hbw⟩ := hps
    clear a2 a3 a4 a5
    have HR := hideP hM
    have HF := hideP (show Fresh (w.heap.size + 1 + 1 + 1) (.slice q N c) from fresh_le hF (by omega))
    clear hM hF
    obtain ⟨x0, x1, x2, _, _, _, _⟩ := kx
    obtain ⟨c0, c1', c2, f0, f1, f2, lt2⟩ := kz'
    go_wp2
    simp [bodyPost, results, Tryz.results91, go_sem, c0, c1', c2]
    exact ⟨q, c, ⟨rfl, rfl⟩, ⟨mx_put7 HR.out HF.out _ _ _, fresh_le HF.out (by omega)⟩, Bl.put3 hbw (by omega) _ _ _⟩
set_option maxRecDepth 100000 in
set_option maxHeartbeats 2000000 in
theorem jMirroredF (n N : Nat) (p : Option Addr) (cap : Nat) (a : Nat → Nat → Fr) (q2 : Option Addr) (cap2 : Nat) (b : Nat → Nat → Fr) (w : World) (hm : Mx 3 cellsF w n n p N cap a) (hf : Mx 3 cellsF w n n q2 N cap2 b) :
    Calls Tryz.prog 93 #[mV n n p N cap, mV n n q2 N cap2] w fun e w' => ∃ q c, e = .returned (mV n n q N c) ∧ (Mx 3 cellsF w' n n q N c (mirrJ kdF a b) ∧ Fresh w.heap.size (.slice q N c)) ∧ Bl w w' := by
  obtain ⟨W, hW⟩ : ∃ W, W = ((w.alloc (.cells #[.int .i64 n, .int .i64 n, .slice p N cap] 60)).alloc (.cells #[.int .i64 n, .int .i64 n, .slice q2 N cap2] 60)).alloc (.cells #[.int .i64 0, .int .i64 0, .slice none 0 0] 60) := ⟨_, rfl⟩
  have b0 : Bl w W := by rw [hW]; exact (((Bl.refl _).alloc _).alloc _).alloc _
  have z0 : MBox W (w.heap.size + 1 + 1) 0 0 none 0 0 := by rw [hW]; have := MBox.new ((w.alloc (.cells #[.int .i64 n, .int .i64 n, .slice p N cap] 60)).alloc (.cells #[.int .i64 n, .int .i64 n, .slice q2 N cap2] 60)) 0 0 none 0 0 60; rw [World.size_alloc, World.size_alloc] at this; exact this
  have hs : W.heap.size = w.heap.size + 1 + 1 + 1 := by rw [hW]; simp
  have HM := hideP hm
  have HFX := hideP hf
  have HW := hideP hW
  clear hW hm hf
  go_enter Tryz.func93, Tryz.ntmps93
  go_wp2_with fail
  rw [← HW.out]
  refine (mAddF' n n p q2 N cap cap2 a b W (HM.out.later b0) (HFX.out.later b0)).mono ?_
  rintro e w1 ⟨p1, c1, rfl, ⟨h1x, _⟩, h1⟩
  obtain ⟨W2, hW2⟩ : ∃ W2, W2 = w1.alloc (.cells #[.int .i64 n, .int .i64 n, .slice p1 N c1] 60) := ⟨_, rfl⟩
  have b2 : Bl w1 W2 := by rw [hW2]; exact (Bl.refl _).alloc _
  have HW2 := hideP hW2
  have H1 := hideP (Mx.later h1x b2)
  clear hW2 h1x
  go_wp2_with fail
  rw [← HW2.out]
  refine (mMirrorF n p1 N c1 _ W2 H1.out).mono ?_
  rintro e w3 ⟨p3, c3, rfl, ⟨hR, _, hF⟩, h3⟩
  obtain ⟨W4, hW4⟩ : ∃ W4, W4 = w3.alloc (.cells #[.int .i64 n, .int .i64 n, .slice p3 N c3] 60) := ⟨_, rfl⟩
  have b4 : Bl w3 W4 := by rw [hW4]; exact (Bl.refl _).alloc _
  have k4 := MBox.new w3 n n p3 N c3 60
  rw [← hW4] at k4
  have B4 : Bl w W4 := b0.trans (h1.trans (b2.trans (h3.trans b4)))
  have HR := hideP (show Mx 3 cellsF W4 n n p3 N c3 (mirrJ kdF a b) from Mx.later hR b4)
  have HF := hideP (show Fresh (w.heap.size + 1 + 1 + 1) (.slice p3 N c3) from fresh_le hF (by have := (h1.trans b2).size; omega))
  have kz := z0.later (h1.trans (b2.trans (h3.trans b4)))
  obtain ⟨x0, x1, x2, _, _, _, _⟩ := k4
  obtain ⟨c0, c1', c2, f0, f1, f2, lt2⟩ := kz
  have HW4 := hideP hW4
  rw [hW4] at x0 x1 x2 c0 c1' c2 f0 f1 f2
  clear hW4 hR hF H1
  go_wp2_with fail
  rw [← HW4.out]
  rw [← HW4.out] at x0 x1 x2 c0 c1' c2 f0 f1 f2
  go_wp2
  simp [bodyPost, results, Tryz.results93, go_sem, c0, c1', c2]
  exact ⟨p3, c3, ⟨rfl, rfl⟩, ⟨mx_put7 HR.out HF.out _ _ _, fresh_le HF.out (by omega)⟩, Bl.put3 B4 (by omega) _ _ _⟩
end Go.Proofs.YthnadgbloamlaaaGreat

/- Contracts of mat's Unit, and of Whole with new memory, of fractions (layer 6). Written by genMa.py. -/
namespace Go.Proofs.YthnadgbloamlaaaGreat
open Go.RowKit
set_option linter.unusedSimpArgs false
set_option linter.unusedVariables false

theorem mWholeF' (r c : Int) (p : Option Addr) (n cap : Nat) (ns : List Int) (w : World) (hr : Rq 1 (fun n => [.int .i64 n]) w (.slice p n cap) ns) (h : fitB r c n = true) (hn : ns.length = n) :
    Calls Tryz.prog 29 #[.int .i64 r, .int .i64 c, .slice p n cap] w fun e w' => ∃ p' cap', e = .returned (.tuple #[mV r c p' n cap', .bool true]) ∧ (Rw 3 cellsF w' (.slice p' n cap') (ns.map wholeF) ∧ Fresh w.heap.size (.slice p' n cap')) ∧ Bl w w' := by
  have hl : n ≤ 1000000 := by obtain ⟨R, C, _, _, hd, rfl⟩ := fitB_nat h; have := hd.lt; omega
  obtain ⟨W, hW⟩ : ∃ W, W = w.alloc (.cells #[.int .i64 0, .int .i64 0, .slice none 0 0] 60) := ⟨_, rfl⟩
  have b0 : Bl w W := by rw [hW]; exact (Bl.refl _).alloc _
  have x0 : MBox W w.heap.size 0 0 none 0 0 := by rw [hW]; exact MBox.new w 0 0 none 0 0 _
  have hsz : W.heap.size = w.heap.size + 1 := by rw [hW]; simp
  have CL := hideP (vWholeF' (.slice p n cap) ns W (hr.later b0) (by omega))
  have HW := hideP hW
  clear hW hr
  go_enter Tryz.func29, Tryz.ntmps29
  go_wp2_with fail
  rw [← HW.out]
  refine (fits_any _ _ _ _).mono ?_
  rintro e w1 ⟨rfl, rfl⟩
  rw [h]
  go_wp2_with fail
  refine CL.out.mono ?_
  rintro e w2 ⟨u, rfl, hR, hF, h2⟩
  obtain ⟨p', cap', rfl, _, _⟩ := hR.cut
  rw [List.length_map, hn] at hR hF ⊢
  have HR := hideP hR
  have HF := hideP hF
  obtain ⟨c0, c1, c2, f0, f1, f2, lt⟩ := x0.later h2
  clear hR hF CL
  go_wp2
  simp [bodyPost, results, Tryz.results29, go_sem, c0, c1, c2]
  refine ⟨p', cap', ⟨rfl, rfl⟩, ⟨((HR.out.set _ ?_).set _ ?_).set _ ?_, fun g hg => ?_⟩, Bl.put3 (b0.trans h2) (Nat.le_refl _) _ _ _⟩
  · exact fun g hg => by have := HF.out g hg; show w.heap.size + 1 ≤ g; omega
  · exact fun g hg => by have := HF.out g hg; show w.heap.size + 1 ≤ g; omega
  · exact fun g hg => by have := HF.out g hg; show w.heap.size + 1 ≤ g; omega
  · have := HF.out g hg; omega
set_option maxHeartbeats 1000000 in
theorem mUnitF (m n : Nat) (h1 : 1 ≤ m) (h2 : m ≤ 16) (hn : n = m * m) (w : World) :
    Calls Tryz.prog 156 #[.int .i64 m] w fun e w' => ∃ p' cap', e = .returned (.tuple #[mV m m p' n cap', .bool true]) ∧ Mx 3 cellsF w' m m p' n cap' (fun i k => wholeF (unitI i k)) ∧ Bl w w' := by
  obtain ⟨i0, hi, hz0, hz1, hz2⟩ := info_parts Tryz.info_I
  have hs : sideB m = true := decide_eq_true ⟨by omega, by omega⟩
  have hd : Dim m m := ⟨h1, h2, h1, h2⟩
  have hmm : (m : Int) * (m : Int) = n := by rw [hn]; simp
  have hn256 : n ≤ 256 := by rw [hn]; exact hd.lt
  have hfit := hideP (fitB_dim hd hn)
  have HN := hideP hn
  clear hn
  have z0 := MBox.new w 0 0 none 0 0 60
  go_enter Tryz.func156, Tryz.ntmps156
  go_wp2_with fail
  refine (side_any _ _).mono ?_
  rintro e w1 ⟨rfl, rfl⟩
  rw [hs]
  go_wp2_with (at_make; refine wpList_make_full _ rfl _ _ 54 rfl (w.heap.size + 1) 3 i0 (.int .i64 0) 1 Tryz.underlying54 hi hz0 hz1 .i64 .i64 _ _ n rfl rfl (by simp) (by simp) (by rw [hz2]; omega) (by unfold maxLen; omega) (by simp) ?_; intro w0 hown0 hgrow0)
  rw [unit_made m n HN.out] at hown0
  have hB0 : Bl w w0 := ((Bl.refl w).alloc _).grown hgrow0 (by simp) (fun k e => by cases e)
  have hz : MBox w0 w.heap.size 0 0 none 0 0 := mbox_block z0 (hgrow0.block _ z0.lt nofun) hgrow0.size
  clear hgrow0 z0
  try simp only [World.size_alloc] at hown0 ⊢
  go_loopw [15] (fun i wr => ∃ j : Nat, i = .int .i64 j ∧ j ≤ m ∧ wr.ownsRow (w.heap.size + 1) 3 1 (.slice (some ⟨w.heap.size + 1, 0, none⟩) n n) n ((mk m m (unitTo j)).flatMap cellsI) ∧ MBox wr w.heap.size 0 0 none 0 0 ∧ Bl w wr) (fun i _ => m - (intOf i).toNat)
  case atStart => exact ⟨0, rfl, Nat.zero_le _, hown0, hz, hB0⟩
  case round =>
    clear hown0 hz hB0
    obtain ⟨j, rfl, hj, hown, hz, hB⟩ := hrel
    by_cases hlt : j < m
    · obtain ⟨a, q, e1, e2, hq1, hq3, hq5, hq6⟩ := place hd hlt hlt
      rw [← HN.out] at hq5
      have cq : wr.cell? ⟨w.heap.size + 1, q, none⟩ = some (.int .i64 (unitTo j j j)) := by
        rw [hown.cellAt q (by omega), flatI_map, List.getElem?_map, e2, mk_get _ hlt hlt]; rfl
      have fq := hown.frozenAt q
      have ST := hideP (hown.stored q (.int .i64 1))
      have EQ := hideP e2
      clear hown e1 e2
      generalize unitTo j j j = x at *
      go_wp2
      go_roundw
      case rel =>
        refine ⟨j + 1, by simp, hlt, ?_, mbox_block hz (ST.out.2.block _ hz.lt (by simp)) ST.out.2.size, Bl.set hB (Nat.le_succ _) _⟩
        have := ST.out.1
        rw [EQ.out] at this ⊢
        rw [unitTo_cells m j hlt] at this
        exact this
      case measure => simp [intOf]; omega
    · obtain rfl : j = m := by omega
      have hr : Rq 1 cI wr (.slice (some ⟨w.heap.size + 1, 0, none⟩) n n) (mk j j unitI) := by
        rw [← unitTo_all]
        exact (Rw.of_own cellsI_len (xs := mk j j (unitTo j)) (by rw [mk_len, ← HN.out]; exact hown)).q
      have WH := hideP (mWholeF' j j _ n n (mk j j unitI) wr hr hfit.out (by rw [mk_len, HN.out]))
      clear hr hown
      go_wp2_with fail
      refine WH.out.mono ?_
      rintro e w2 ⟨p', cap', rfl, ⟨hR, hF⟩, h2⟩
      have HR := hideP hR
      have HF := hideP (show Fresh (w.heap.size + 1) (.slice p' n cap') from fun g hg => by have := hF g hg; have := hz.lt; omega)
      clear hR hF WH
      obtain ⟨c0, c1, c2, f0, f1, f2, lt⟩ := hz.later h2
      go_wp2
      simp [bodyPost, results, Tryz.results156, go_sem, c0, c1, c2]
      have q := ((HR.out.set (p := ⟨w.heap.size, 0, none⟩) (.int .i64 j) HF.out).set (p := ⟨w.heap.size, 1, none⟩) (.int .i64 j) HF.out).set (p := ⟨w.heap.size, 2, none⟩) (.slice p' n cap') HF.out
      rw [mk_map] at q
      exact ⟨p', cap', ⟨rfl, rfl⟩, ⟨hd, HN.out, q.q⟩, Bl.put3 (hB.trans h2) (Nat.le_refl _) _ _ _⟩
end Go.Proofs.YthnadgbloamlaaaGreat

/- Contracts of joseph's shares, outer, rest, of fractions (layer 9). Written by genJo.py. -/
namespace Go.Proofs.YthnadgbloamlaaaGreat
open Go.RowKit
set_option linter.unusedSimpArgs false
set_option linter.unusedVariables false

theorem fresh_ownF {w : World} {B b n : Nat} {e : TypeId} {s : Nat} {v : Value} {l : List Value} (h : w.ownsRow B e s v n l) (hb : b ≤ B) : Fresh b v := fun g hg => Nat.le_trans hb (h.lt g hg).1
set_option maxHeartbeats 1000000 in
theorem jShares0F (v : Value) (xs : List Fr) (by_ : Fr) (w : World) (h : Rw 3 cellsF w v xs) (hl : xs.length ≤ 1000000) :
    Calls Tryz.prog 95 #[v, frV by_] w fun e w' => ∃ u, e = .returned u ∧ Rw 3 cellsF w' u (xs.map fun x => divR x by_) ∧ Fresh w.heap.size u ∧ Bl w w' := by
  have iv := Tryz.mDivF
  obtain ⟨i0, hi, hz0, hz1, hz2⟩ := info_parts Tryz.info_F
  have x0 := FBox.new w by_ 64
  rcases h with ⟨rfl, rfl⟩ | ⟨b, o, cap, rfl, hc, hb, hx⟩
  · go_enter Tryz.func95, Tryz.ntmps95
    go_wp2_with (at_make; refine wpList_make_own _ rfl _ _ 58 rfl w.heap.size 64 i0 (.agg #[.int .i64 0, .int .i64 0, .bool false]) 3 Tryz.underlying58 hi hz0 hz1 .i64 .i64 _ 0 rfl rfl (by simp) (by rw [hz2]; omega) (by unfold maxLen; omega) (by simp) ?_; intro w0 hown0 hgrow0)
    rw [World.size_alloc] at hown0
    have hB0 : Bl w w0 := Below.grown (Below.alloc (Bl.refl w) (Nat.le_refl _) _) hgrow0 (by simp) (fun k e => by cases e)
    go_loopw [5, 13] (fun v i wr => i = .int .i64 0 ∧ wr.ownsRow w.heap.size 64 3 v 0 [] ∧ Bl w wr) (fun _ _ _ => 0)
    case atStart => exact ⟨rfl, hown0, hB0⟩
    case round =>
      obtain ⟨rfl, hown, hB⟩ := hrel
      go_wp2
      go_ret
      exact ⟨_, rfl, Rw.of_own cellsF_len (xs := []) hown, fresh_ownF hown (Nat.le_refl _), hB⟩
  · have HX := hideP hx
    clear hx
    go_enter Tryz.func95, Tryz.ntmps95
    go_wp2_with (at_make; refine wpList_make_own _ rfl _ _ 58 rfl (w.heap.size + 1) 64 i0 (.agg #[.int .i64 0, .int .i64 0, .bool false]) 3 Tryz.underlying58 hi hz0 hz1 .i64 .i64 _ xs.length rfl rfl (by simp) (by rw [hz2]; omega) (by unfold maxLen; omega) (by simp) ?_; intro w0 hown0 hgrow0)
    rw [World.size_alloc] at hown0
    have hB1 : Bl (w.alloc (.cells #[.int .i64 by_.n, .int .i64 by_.d, .bool by_.bad] 64)) w0 := Below.grown (Bl.refl _) hgrow0 (Nat.le_refl _) (fun k e => by cases e)
    have hB0 : Bl w w0 := ((Bl.refl w).alloc _).trans hB1
    go_loopw [5, 13] (fun v i wr => ∃ k : Nat, i = .int .i64 k ∧ k ≤ xs.length ∧ FBox wr w.heap.size by_ ∧ wr.ownsRow (w.heap.size + 1) 64 3 v ((xs.take k).map fun x => divR x by_).length (((xs.take k).map fun x => divR x by_).flatMap cellsF) ∧ Bl w wr) (fun _ i _ => xs.length - (intOf i).toNat)
    case atStart => exact ⟨0, rfl, Nat.zero_le _, x0.later hB1, hown0, hB0⟩
    case round =>
      obtain ⟨k, rfl, hk, bx, hown, hB⟩ := hrel
      by_cases hlt : k < xs.length
      · obtain ⟨x, hx⟩ : ∃ x, xs[k]? = some x := ⟨_, List.getElem?_eq_getElem hlt⟩
        have CX : ∀ j u, (cellsF x)[j]? = some u → wr.cell? ⟨b, o + k * 3 + j, none⟩ = some u := fun j u hu => (bl_cell hB _ _ hb).trans (HX.out k x hx j u hu)
        have y0 : wr.cell? ⟨b, o + k * 3, none⟩ = some (.int .i64 x.n) := CX 0 _ rfl
        have y1 : wr.cell? ⟨b, o + k * 3 + 1, none⟩ = some (.int .i64 x.d) := CX 1 _ rfl
        have y2 : wr.cell? ⟨b, o + k * 3 + 2, none⟩ = some (.bool x.bad) := CX 2 _ rfl
        clear CX
        obtain ⟨c0, c1, c2, f0, f1, f2, lt⟩ := id bx
        have HT := hideP (show (xs.take (k + 1)).map (fun x => divR x by_) = (xs.take k).map (fun x => divR x by_) ++ [divR x by_] by rw [List.take_add_one, hx]; simp)
        have HK := hideP (show ((xs.take k).map fun x => divR x by_).length = k by simp; omega)
        generalize hys : (xs.take k).map (fun x => divR x by_) = ys at *
        clear hys
        go_wp2_with fail
        refine (rdiv_any _ _ _).mono ?_
        rintro e w2 ⟨rfl, h2⟩
        have bl2 : Bl wr w2 := ((Bl.refl _).alloc _).trans h2
        generalize divR x by_ = r at *
        clear y0 y1 y2 c0 c1 c2
        replace hown := own_blF hown bl2
        replace hB := hB.trans bl2
        have bx2 := bx.later bl2
        have hkk := HK.out
        go_wp2_with (at_builtin; refine wpList_append_own _ rfl _ _ 58 rfl (w.heap.size + 1) 64 i0 (.agg #[.int .i64 0, .int .i64 0, .bool false]) 3 24 Tryz.underlying58 hi hz0 hz1 hz2 rfl (by decide) _ _ _ rfl (hown.alloc _) ⟨_, 0, none⟩ 1 1 (cellsF r) rfl rfl (newF_cells _ _ _) (oneF_cells _) (by unfold maxLen; omega) (by omega) (by have := bx2.lt; simp; omega) ?_; intro v' w1 hown' hgrow _)
        have R := ownF_step' (n₀ := w.heap.size + 1) hB (by omega) hown hown' hgrow
        have bx3 := bx2.grown ((Bl.refl _).alloc _) hown hgrow (by omega)
        clear hown hown' hgrow
        go_wp2
        go_roundw
        case rel => exact ⟨k + 1, by simp, hlt, bx3, by rw [HT.out]; exact R.2, R.1⟩
        case measure => simp [intOf]; omega
      · have hk' : k = xs.length := by omega
        subst hk'
        rw [List.take_length] at hown
        have R := hideP (Rw.of_own cellsF_len hown)
        have FR := hideP (fresh_ownF hown (Nat.le_succ _))
        clear hown
        go_wp2
        go_ret
        exact ⟨_, rfl, R.out, FR.out, hB⟩


theorem jSharesF (n : Nat) (p : Option Addr) (cap : Nat) (u : Nat → Fr) (a : Fr) (w : World) (h : Rw 3 cellsF w (.slice p n cap) (linJ n u)) (hl : n ≤ 1000000) :
    Calls Tryz.prog 95 #[.slice p n cap, frV a] w fun e w' => ∃ q c, e = .returned (.slice q n c) ∧ (Rw 3 cellsF w' (.slice q n c) (linJ n (fun i => divR (u i) a)) ∧ Fresh w.heap.size (.slice q n c)) ∧ Bl w w' :=
  (jShares0F _ _ a w h (by rw [linJ_len]; exact hl)).mono fun e w' ⟨v, he, hr, hf, hb⟩ => by
    rw [linJ_map] at hr
    obtain ⟨q, c, rfl, _, _⟩ := hr.cut
    rw [linJ_len] at hr hf he
    exact ⟨q, c, he, ⟨hr, hf⟩, hb⟩
set_option maxRecDepth 100000 in
set_option maxHeartbeats 2000000 in
theorem jOuterF (n m N : Nat) (pk : Option Addr) (ck : Nat) (k : Nat → Fr) (ph : Option Addr) (ch : Nat) (h : Nat → Fr) (w : World) (hk : Rq 3 cellsF w (.slice pk n ck) (linJ n k)) (hh : Rq 3 cellsF w (.slice ph m ch) (linJ m h)) (hd : Dim n m) (hN : N = n * m) :
    Calls Tryz.prog 99 #[.slice pk n ck, .slice ph m ch] w fun e w' => ∃ q c, e = .returned (mV n m q N c) ∧ (Mx 3 cellsF w' n m q N c (outerJ kdF k h) ∧ Fresh w.heap.size (.slice q N c)) ∧ Bl w w' := by
  have d1 : Dim n 1 := ⟨hd.r1, hd.r2, by decide, by decide⟩
  have d2 : Dim 1 m := ⟨by decide, by decide, hd.c1, hd.c2⟩
  have f1' : fitB (n : Int) (1 : Int) (n : Int) = true := fitB_dim d1 (Nat.mul_one n).symm
  have f2' : fitB (1 : Int) (m : Int) (m : Int) = true := fitB_dim d2 (Nat.one_mul m).symm
  obtain ⟨W, hW⟩ : ∃ W, W = w.alloc (.cells #[.int .i64 0, .int .i64 0, .slice none 0 0] 60) := ⟨_, rfl⟩
  have b0 : Bl w W := by rw [hW]; exact (Bl.refl _).alloc _
  have z0 : MBox W w.heap.size 0 0 none 0 0 := by rw [hW]; exact MBox.new w _ _ _ _ _ _
  have hs : W.heap.size = w.heap.size + 1 := by rw [hW]; simp
  have HK := hideP hk
  have HH := hideP hh
  have HW := hideP hW
  have HN := hideP hN
  clear hW hk hh hN
  go_enter Tryz.func99, Tryz.ntmps99
  go_wp2_with fail
  rw [← HW.out]
  refine (mNewF (n : Int) (1 : Int) pk n ck (linJ n k) W (HK.out.later b0) f1' (linJ_len _ _)).mono ?_
  rintro e w1 ⟨p1, c1, rfl, ⟨hR1, _⟩, h1⟩
  obtain ⟨W1, hW1⟩ : ∃ W1, W1 = w1.alloc (.cells #[.int .i64 n, .int .i64 1, .slice p1 n c1] 60) := ⟨_, rfl⟩
  have b1 : Bl w1 W1 := by rw [hW1]; exact (Bl.refl _).alloc _
  have k1 : MBox W1 w1.heap.size n 1 p1 n c1 := by rw [hW1]; exact MBox.new w1 _ _ _ _ _ _
  have HW1 := hideP hW1
  have X1 := hideP (show Mx 3 cellsF W1 n 1 p1 n c1 (fun i _ => k i) from ⟨d1, (Nat.mul_one n).symm, by rw [linJ_col] at hR1; exact (hR1.later b1).q⟩)
  clear hW1 hR1
  have B1 : Bl w W1 := b0.trans (h1.trans b1)
  go_wp2_with fail
  rw [← HW1.out]
  refine (mNewF (1 : Int) (m : Int) ph m ch (linJ m h) W1 (HH.out.later B1) f2' (linJ_len _ _)).mono ?_
  rintro e w2 ⟨p2, c2, rfl, ⟨hR2, _⟩, h2⟩
  obtain ⟨W2, hW2⟩ : ∃ W2, W2 = w2.alloc (.cells #[.int .i64 1, .int .i64 m, .slice p2 m c2] 60) := ⟨_, rfl⟩
  have b2 : Bl w2 W2 := by rw [hW2]; exact (Bl.refl _).alloc _
  have k2 : MBox W2 w2.heap.size 1 m p2 m c2 := by rw [hW2]; exact MBox.new w2 _ _ _ _ _ _
  have HW2 := hideP hW2
  have X2 := hideP (show Mx 3 cellsF W2 1 m p2 m c2 (fun _ j => h j) from ⟨d2, (Nat.one_mul m).symm, by rw [linJ_one] at hR2; exact (hR2.later b2).q⟩)
  have k1' := k1.later (h2.trans b2)
  obtain ⟨x0, x1, x2, _, _, _, _⟩ := k1'
  obtain ⟨y0, y1, y2, _, _, _, _⟩ := k2
  rw [hW2] at x0 x1 x2 y0 y1 y2
  clear hW2 hR2
  have B2 : Bl w W2 := B1.trans (h2.trans b2)
  have MU := hideP (mMulF n 1 m p1 n c1 (fun i _ => k i) p2 m c2 (fun _ j => h j) N W2 (X1.out.later (h2.trans b2)) X2.out HN.out)
  go_wp2_with fail
  rw [← HW2.out]
  refine MU.out.mono ?_
  rintro e w3 ⟨p3, c3, rfl, ⟨hR, _, hF⟩, h3⟩
  obtain ⟨W4, hW4⟩ : ∃ W4, W4 = w3.alloc (.cells #[.int .i64 n, .int .i64 m, .slice p3 N c3] 60) := ⟨_, rfl⟩
  have b4 : Bl w3 W4 := by rw [hW4]; exact (Bl.refl _).alloc _
  have k4 := MBox.new w3 n m p3 N c3 60
  rw [← hW4] at k4
  have B4 : Bl w W4 := B2.trans (h3.trans b4)
  have HR := hideP (show Mx 3 cellsF W4 n m p3 N c3 (outerJ kdF k h) from Mx.later hR b4)
  have HF := hideP (show Fresh (w.heap.size + 1) (.slice p3 N c3) from fresh_le hF (by have := ((h1.trans b1).trans (h2.trans b2)).size; omega))
  have kz := z0.later (((h1.trans b1).trans (h2.trans b2)).trans (h3.trans b4))
  clear x0 x1 x2 y0 y1 y2
  obtain ⟨x0, x1, x2, _, _, _, _⟩ := k4
  obtain ⟨c0, c1', c2', f0, f1, f2, lt2⟩ := kz
  have HW4 := hideP hW4
  rw [hW4] at x0 x1 x2 c0 c1' c2' f0 f1 f2
  clear hW4 hR hF X1 X2 MU
  go_wp2_with fail
  rw [← HW4.out]
  rw [← HW4.out] at x0 x1 x2 c0 c1' c2' f0 f1 f2
  go_wp2
  simp [bodyPost, results, Tryz.results99, go_sem, c0, c1', c2']
  exact ⟨p3, c3, ⟨rfl, rfl⟩, ⟨mx_put7 HR.out HF.out _ _ _, fresh_le HF.out (by omega)⟩, Bl.put3 B4 (Nat.le_refl _) _ _ _⟩
set_option maxRecDepth 100000 in
set_option maxHeartbeats 2000000 in
theorem jRestF (n N : Nat) (pk : Option Addr) (ck : Nat) (k : Nat → Fr) (ph : Option Addr) (ch : Nat) (h : Nat → Fr) (w : World) (hk : Rq 3 cellsF w (.slice pk n ck) (linJ n k)) (hh : Rq 3 cellsF w (.slice ph n ch) (linJ n h)) (hd : Dim n n) (hN : N = n * n) :
    Calls Tryz.prog 98 #[.slice pk n ck, .slice ph n ch] w fun e w' => ∃ q c, e = .returned (mV n n q N c) ∧ (Mx 3 cellsF w' n n q N c (restJ kdF (fun i j => wholeF (unitI i j)) k h) ∧ Fresh w.heap.size (.slice q N c)) ∧ Bl w w' := by
  have fm : Tryz.prog.follows .mixedOrders = true := by kernel_rfl
  have egO := enters_of Tryz.func99 (by kernel_rfl) rfl
  have egS := enters_of Tryz.func157 (by kernel_rfl) rfl
  obtain ⟨W, hW⟩ : ∃ W, W = w.alloc (.cells #[.int .i64 0, .int .i64 0, .slice none 0 0] 60) := ⟨_, rfl⟩
  have b0 : Bl w W := by rw [hW]; exact (Bl.refl _).alloc _
  have z0 : MBox W w.heap.size 0 0 none 0 0 := by rw [hW]; exact MBox.new w _ _ _ _ _ _
  have hs : W.heap.size = w.heap.size + 1 := by rw [hW]; simp
  have HK := hideP hk
  have HH := hideP hh
  have HD := hideP hd
  have HN := hideP hN
  have HW := hideP hW
  have UN := hideP (mUnitF n N hd.r1 hd.r2 hN W)
  clear hW hk hh hd hN
  go_enter Tryz.func98, Tryz.ntmps98
  go_wp2_with fail
  rw [← HW.out]
  refine UN.out.mono ?_
  rintro e w1 ⟨p1, c1, rfl, h1x, h1⟩
  have k1 := MBox.new w1 n n p1 N c1 60
  obtain ⟨W2, hW2⟩ : ∃ W2, W2 = w1.alloc (.cells #[.int .i64 n, .int .i64 n, .slice p1 N c1] 60) := ⟨_, rfl⟩
  have b2 : Bl w1 W2 := by rw [hW2]; exact (Bl.refl _).alloc _
  rw [← hW2] at k1
  have hs2 : w.heap.size + 1 ≤ W2.heap.size := by have := (h1.trans b2).size; omega
  have HW2 := hideP hW2
  have B2 : Bl w W2 := b0.trans (h1.trans b2)
  have kz := z0.later (h1.trans b2)
  have H1 := hideP (Mx.later h1x b2)
  clear hW2 h1x UN
  go_wp2_with fail
  rw [← HW2.out]
  refine (wpIn_wide (n := 8)).1 (region_q fm [some 16, some 17, some 18, some 19, some 20, some 15, some 21, some 22, some 7, none, some 8] (fun j => j == 7 || j == 10) 9 (by kernel_rfl) (by rfl)
    (fun j v u => match j with | 0 => v = mV n n p1 N c1 | 1 => v = .slice pk n ck | 2 => v = .slice ph n ch | 3 => ∃ q c, v = mV n n q N c ∧ Mx 3 cellsF u n n q N c (outerJ kdF k h) | 4 => ∃ q c, v = .tuple #[mV n n q N c, .bool true] ∧ Mx 3 cellsF u n n q N c (restJ kdF (fun i j => wholeF (unitI i j)) k h) ∧ Fresh W2.heap.size (.slice q N c) | 5 => ∃ q c, v = .tuple #[mV n n q N c, .bool true] ∧ Mx 3 cellsF u n n q N c (restJ kdF (fun i j => wholeF (unitI i j)) k h) ∧ Fresh W2.heap.size (.slice q N c) | 6 => ∃ q c, v = mV n n q N c ∧ Mx 3 cellsF u n n q N c (restJ kdF (fun i j => wholeF (unitI i j)) k h) ∧ Fresh W2.heap.size (.slice q N c) | 7 => v = .bool true | 8 => ∃ b, v = .pointer (some ⟨b, 0, none⟩) ∧ W2.heap.size ≤ b ∧ MBox u b 0 0 none 0 0 ∧ NoB u b | 10 => v = .bool true | _ => False)
    (by
        intro j v u u' hb h
        split at h
        · exact h
        · exact h
        · exact h
        · obtain ⟨q, c, e, h1⟩ := h; exact ⟨q, c, e, Mx.later h1 hb⟩
        · obtain ⟨q, c, e, h1, h2⟩ := h; exact ⟨q, c, e, Mx.later h1 hb, h2⟩
        · obtain ⟨q, c, e, h1, h2⟩ := h; exact ⟨q, c, e, Mx.later h1 hb, h2⟩
        · obtain ⟨q, c, e, h1, h2⟩ := h; exact ⟨q, c, e, Mx.later h1 hb, h2⟩
        · exact h
        · obtain ⟨b, e, h1, h2, h3⟩ := h; exact ⟨b, e, h1, h2.later hb, h3.later hb h2.lt⟩
        · exact h
        · exact h) (fun vs u0 u => ∃ b q c, vs 8 = .pointer (some ⟨b, 0, none⟩) ∧ MBox u b n n q N c ∧ Mx 3 cellsF u n n q N c (restJ kdF (fun i j => wholeF (unitI i j)) k h) ∧ Fresh W2.heap.size (.slice q N c) ∧ MBox u w.heap.size 0 0 none 0 0 ∧ Bl w u) ?step ?still ?store ?fin)
  case step =>
    intro j o t act u ho hdt hpu hsz hu hfr hin
    have hj : j < 11 := (Array.getElem?_eq_some_iff.1 ho).1
    obtain ⟨y0, y1, y2, _, _, _, _⟩ := k1.later hu
    rcases (by omega : j = 0 ∨ j = 1 ∨ j = 2 ∨ j = 3 ∨ j = 4 ∨ j = 5 ∨ j = 6 ∨ j = 7 ∨ j = 8 ∨ j = 9 ∨ j = 10) with rfl | rfl | rfl | rfl | rfl | rfl | rfl | rfl | rfl | rfl | rfl
    · simp only [List.getElem?_toArray, List.getElem?_cons_zero, List.getElem?_cons_succ, Option.some.injEq] at ho
      subst ho
      obtain rfl := Option.some.inj hdt
      have i5 : act.eval (.tmp (5 : Nat)) = .pointer (some ⟨w1.heap.size, 0, none⟩) := hfr 5 (by decide)
      exact plain_wp (by intro c h; cases h) (fun _ _ => trivial) (by simp only [execOp, i5, evalC, evalF, evalG]; simp [go_sem, y0, y1, y2]) ⟨_, rfl, rfl, Bl.refl _⟩
    · simp only [List.getElem?_toArray, List.getElem?_cons_zero, List.getElem?_cons_succ, Option.some.injEq] at ho
      subst ho
      obtain rfl := Option.some.inj hdt
      have i0 : act.eval (.tmp (0 : Nat)) = .slice pk n ck := hfr 0 (by decide)
      exact plain_wp (by intro c h; cases h) (fun _ _ => trivial) (by simp only [execOp, i0, evalC, evalF, evalG]; simp [go_sem]) ⟨_, rfl, rfl, Bl.refl _⟩
    · simp only [List.getElem?_toArray, List.getElem?_cons_zero, List.getElem?_cons_succ, Option.some.injEq] at ho
      subst ho
      obtain rfl := Option.some.inj hdt
      have i1 : act.eval (.tmp (1 : Nat)) = .slice ph n ch := hfr 1 (by decide)
      exact plain_wp (by intro c h; cases h) (fun _ _ => trivial) (by simp only [execOp, i1, evalC, evalF, evalG]; simp [go_sem]) ⟨_, rfl, rfl, Bl.refl _⟩
    · simp only [List.getElem?_toArray, List.getElem?_cons_zero, List.getElem?_cons_succ, Option.some.injEq] at ho
      subst ho
      obtain rfl := Option.some.inj hdt
      have i17 : (act.eval (.tmp (17 : Nat))) = .slice pk n ck := hin ⟨1, .data⟩ (by simp) rfl 17 rfl
      have i18 : (act.eval (.tmp (18 : Nat))) = .slice ph n ch := hin ⟨2, .data⟩ (by simp) rfl 18 rfl
      refine enter_wp 99 #[.slice pk n ck, .slice ph n ch] (by intro c h; cases h) (fun _ _ => trivial) (by simp only [execOp, evalC, evalF, evalG, resolve, i17, i18, List.map_toArray, List.map_cons, List.map_nil]; simp [invoke, egO, Result.andThen, go_sem]) (by intro h; cases h) (callsIn_wide.2 (jOuterF n n N pk ck k ph ch h u (HK.out.later (B2.trans hu)) (HH.out.later (B2.trans hu)) HD.out HN.out)) ?_
      rintro e w' ⟨q, c, rfl, ⟨hM, _⟩, hb⟩
      exact ⟨_, rfl, _, rfl, ⟨q, c, rfl, hM⟩, hb⟩
    · simp only [List.getElem?_toArray, List.getElem?_cons_zero, List.getElem?_cons_succ, Option.some.injEq] at ho
      subst ho
      obtain rfl := Option.some.inj hdt
      have i16 : (act.eval (.tmp (16 : Nat))) = mV n n p1 N c1 := hin ⟨0, .data⟩ (by simp) rfl 16 rfl
      have i19 : ∃ q c, (act.eval (.tmp (19 : Nat))) = mV n n q N c ∧ Mx 3 cellsF u n n q N c (outerJ kdF k h) := hin ⟨3, .data⟩ (by simp) rfl 19 rfl
      obtain ⟨q0, c0', e1, hq⟩ := i19
      refine enter_wp 157 #[mV n n p1 N c1, mV n n q0 N c0'] (by intro c h; cases h) (fun _ _ => trivial) (by simp only [execOp, evalC, evalF, evalG, resolve, i16, e1, List.map_toArray, List.map_cons, List.map_nil]; simp [invoke, egS, Result.andThen, go_sem]) (by intro h; cases h) (callsIn_wide.2 (mSubF' n n p1 q0 N c1 c0' _ _ u (H1.out.later hu) hq)) ?_
      rintro e w' ⟨q, c, rfl, ⟨hM, hF⟩, hb⟩
      exact ⟨_, rfl, _, rfl, ⟨q, c, rfl, hM, fresh_le hF hu.size⟩, hb⟩
    · simp only [List.getElem?_toArray, List.getElem?_cons_zero, List.getElem?_cons_succ, Option.some.injEq] at ho
      subst ho
      obtain rfl := Option.some.inj hdt
      have i20 : ∃ q c, (act.eval (.tmp (20 : Nat))) = .tuple #[mV n n q N c, .bool true] ∧ Mx 3 cellsF u n n q N c (restJ kdF (fun i j => wholeF (unitI i j)) k h) ∧ Fresh W2.heap.size (.slice q N c) := hin ⟨4, .data⟩ (by simp) rfl 20 rfl
      obtain ⟨q0, c0', e1, hq⟩ := i20
      exact plain_wp (by intro c h; cases h) (fun _ _ => trivial) (by simp only [execOp, e1]; simp [go_sem]) ⟨_, rfl, ⟨q0, c0', rfl, hq⟩, Bl.refl _⟩
    · simp only [List.getElem?_toArray, List.getElem?_cons_zero, List.getElem?_cons_succ, Option.some.injEq] at ho
      subst ho
      obtain rfl := Option.some.inj hdt
      have i15 : ∃ q c, (act.eval (.tmp (15 : Nat))) = .tuple #[mV n n q N c, .bool true] ∧ Mx 3 cellsF u n n q N c (restJ kdF (fun i j => wholeF (unitI i j)) k h) ∧ Fresh W2.heap.size (.slice q N c) := hin ⟨5, .data⟩ (by simp) rfl 15 rfl
      obtain ⟨q0, c0', e1, hq⟩ := i15
      exact plain_wp (by intro c h; cases h) (fun _ _ => trivial) (by simp only [execOp, e1]; simp [go_sem]) ⟨_, rfl, ⟨q0, c0', rfl, hq⟩, Bl.refl _⟩
    · cases hpu
    · simp only [List.getElem?_toArray, List.getElem?_cons_zero, List.getElem?_cons_succ, Option.some.injEq] at ho
      subst ho
      obtain rfl := Option.some.inj hdt
      exact plain_wp (by intro c h; cases h) (fun _ _ => trivial) (w' := u.alloc (.cells #[.int .i64 0, .int .i64 0, .slice none 0 0] 60)) (v := .pointer (some ⟨u.heap.size, 0, none⟩)) (by simp only [execOp]; simp [go_sem]) ⟨_, rfl, ⟨u.heap.size, rfl, hu.size, MBox.new u 0 0 none 0 0 _, noB_new u _⟩, (Bl.refl _).alloc _⟩
    · simp only [List.getElem?_toArray, List.getElem?_cons_zero, List.getElem?_cons_succ, Option.some.injEq] at ho
      subst ho
      cases hdt
    · cases hpu
  case still =>
    intro j o t act u0 u ho hdt hpu hsz hu hfr hin
    have hj : j < 11 := (Array.getElem?_eq_some_iff.1 ho).1
    obtain ⟨y0, y1, y2, _, _, _, _⟩ := k1.later hu
    rcases (by omega : j = 0 ∨ j = 1 ∨ j = 2 ∨ j = 3 ∨ j = 4 ∨ j = 5 ∨ j = 6 ∨ j = 7 ∨ j = 8 ∨ j = 9 ∨ j = 10) with rfl | rfl | rfl | rfl | rfl | rfl | rfl | rfl | rfl | rfl | rfl
    · cases hpu
    · cases hpu
    · cases hpu
    · cases hpu
    · cases hpu
    · cases hpu
    · cases hpu
    · simp only [List.getElem?_toArray, List.getElem?_cons_zero, List.getElem?_cons_succ, Option.some.injEq] at ho
      subst ho
      obtain rfl := Option.some.inj hdt
      have i15 : ∃ q c, (act.eval (.tmp (15 : Nat))) = .tuple #[mV n n q N c, .bool true] ∧ Mx 3 cellsF u0 n n q N c (restJ kdF (fun i j => wholeF (unitI i j)) k h) ∧ Fresh W2.heap.size (.slice q N c) := hin ⟨5, .data⟩ (by simp) rfl 15 rfl
      obtain ⟨q0, c0', e1, hq⟩ := i15
      exact plain_wp (by intro c h; cases h) (fun _ _ => trivial) (by simp only [execOp, e1]; simp [go_sem]) ⟨_, rfl, rfl, rfl⟩
    · cases hpu
    · cases hpu
    · simp only [List.getElem?_toArray, List.getElem?_cons_zero, List.getElem?_cons_succ, Option.some.injEq] at ho
      subst ho
      obtain rfl := Option.some.inj hdt
      have i22 : (act.eval (.tmp (22 : Nat))) = .bool true := hin ⟨7, .data⟩ (by simp) rfl 22 rfl
      exact plain_wp (by intro c h; cases h) (fun _ _ => trivial) (by simp only [execOp, i22, evalC, evalF, evalG]; simp [go_sem]) ⟨_, rfl, rfl, rfl⟩
  case store =>
    intro o act u vs ho hsz hu hfr hin
    simp only [List.getElem?_toArray, List.getElem?_cons_zero, List.getElem?_cons_succ, Option.some.injEq] at ho
    subst ho
    obtain ⟨i7, k7⟩ : act.eval (.tmp (7 : Nat)) = vs 8 ∧ (∃ b, (vs 8) = .pointer (some ⟨b, 0, none⟩) ∧ W2.heap.size ≤ b ∧ MBox u b 0 0 none 0 0 ∧ NoB u b) := hin 8 7 rfl rfl
    obtain ⟨i21, k21⟩ : act.eval (.tmp (21 : Nat)) = vs 6 ∧ (∃ q c, (vs 6) = mV n n q N c ∧ Mx 3 cellsF u n n q N c (restJ kdF (fun i j => wholeF (unitI i j)) k h) ∧ Fresh W2.heap.size (.slice q N c)) := hin 6 21 rfl rfl
    obtain ⟨b, e1, hb, bx, nb⟩ := k7
    obtain ⟨q0, c0', e2, hq, hf⟩ := k21
    rw [e1] at i7
    rw [e2] at i21
    obtain ⟨c0, c1', c2, f0, f1, f2, ltb⟩ := id bx
    exact skip_wp (by intro c h; cases h) (fun _ _ => trivial) (by simp only [execOp, i7, i21]; simp [go_sem, c0, c1', c2, f0, f1, f2]) ⟨rfl, b, q0, c0', e1, bx.fill _ _ _ _ _, mx_ne7 hq (noB_mx boolF hq nb) _ _ _, hf, mbox_set7 (mbox_set7 (mbox_set7 (kz.later hu) (by omega) _ _) (by omega) _ _) (by omega) _ _, Bl.put3 (B2.trans hu) (by omega) _ _ _⟩
  case fin =>
    intro vs vb u0 u hu hin hps
    have a0 := hin 0 16 rfl
    have a1 := hin 1 17 rfl
    have a2 := hin 2 18 rfl
    have a3 := hin 3 19 rfl
    have a4 := hin 4 20 rfl
    have a5 := hin 5 15 rfl
    have a6 := hin 6 21 rfl
    have a7 := hin 7 22 rfl
    have a8 := hin 8 7 rfl
    have a10 := hin 10 8 rfl
    simp only [putL, Act.put, List.setIfInBounds_toArray, List.set_cons_zero, List.set_cons_succ, Nat.zero_add, Nat.reduceAdd, Nat.reduceBEq, Bool.or_false, Bool.or_true, Bool.false_or, Bool.true_or, Bool.false_eq_true, if_false, if_true, reduceIte, Nat.reduceEqDiff, beq_self_eq_true, Bool.or_self] at a0 a1 a2 a3 a4 a5 a6 a7 a8 a10 ⊢
    rw [if_pos (by decide)] at hps
    simp only [a0, a1, a2, a7, a10]
    obtain ⟨b, q, c, e7, kx, hM, hF, kz', hbw⟩ := hps
    simp only [e7]
    clear a3 a4 a5 a6 a8
    have HR := hideP hM
    have HF := hideP (show Fresh (w.heap.size + 1) (.slice q N c) from fresh_le hF (by omega))
    clear hM hF
    obtain ⟨x0, x1, x2, _, _, _, _⟩ := kx
    obtain ⟨c0, c1', c2, f0, f1, f2, lt2⟩ := kz'
    go_wp2
    simp [bodyPost, results, Tryz.results98, go_sem, c0, c1', c2]
    exact ⟨q, c, ⟨rfl, rfl⟩, ⟨mx_put7 HR.out HF.out _ _ _, fresh_le HF.out (by omega)⟩, Bl.put3 hbw (by omega) _ _ _⟩
end Go.Proofs.YthnadgbloamlaaaGreat

/- Rows that lie in blocks of their own and are changed in place: copies of elements of several cells, a table of rows in memory (layer 8). -/
namespace Go.Proofs.YthnadgbloamlaaaGreat
open Go.RowKit
set_option linter.unusedSimpArgs false
set_option linter.unusedVariables false

/-- A row in a block of its own, at or beyond lo, of which no cell is frozen. -/
def RwZ {α : Type} (s : Nat) (c : α → List Value) (w : World) (lo : Nat) (v : Value) (xs : List α) : Prop :=
  ∃ b cap, v = .slice (some ⟨b, 0, none⟩) xs.length cap ∧ xs.length ≤ cap ∧ lo ≤ b ∧ b < w.heap.size ∧ (∀ o, w.frozen? ⟨b, o, none⟩ = false) ∧ ∀ j x, xs[j]? = some x → ∀ k u, (c x)[k]? = some u → w.cell? ⟨b, j * s + k, none⟩ = some u
theorem RwZ.of_own {α : Type} {s : Nat} {c : α → List Value} (hs : ∀ x, (c x).length = s) {w : World} {B : Nat} {e : TypeId} {v : Value} {xs : List α}
    (h : w.ownsRow B e s v xs.length (xs.flatMap c)) (hne : xs ≠ []) : RwZ s c w B v xs := by
  have hlt := h.lt
  have R := Rw.of_own hs h
  rcases R with ⟨rfl, e0⟩ | ⟨b, o, cap, rfl, hc, hb, hx⟩
  · exact absurd e0 hne
  · have h2 := h.2
    rcases h2 with ⟨e1, _⟩ | ⟨g, cap', cur, e1, hB, _⟩
    · cases e1
    · cases e1
      have h3 := h
      exact ⟨b, cap, rfl, hc, hB, hb, fun o => h3.frozenAt o, fun j x hj k u hu => by have := hx j x hj k u hu; rwa [Nat.zero_add] at this⟩
theorem RwZ.rw {α : Type} {s : Nat} {c : α → List Value} {w : World} {lo : Nat} {v : Value} {xs : List α} (h : RwZ s c w lo v xs) : Rw s c w v xs := by
  obtain ⟨b, cap, e, hc, _, hb, _, hx⟩ := h
  exact .inr ⟨b, 0, cap, e, hc, hb, fun j x hj k u hu => by have := hx j x hj k u hu; rwa [Nat.zero_add]⟩
theorem RwZ.later {α : Type} {s : Nat} {c : α → List Value} {w w' : World} {lo : Nat} {v : Value} {xs : List α} (h : RwZ s c w lo v xs) (k : Bl w w') : RwZ s c w' lo v xs := by
  obtain ⟨b, cap, e, hc, hlo, hb, hf, hx⟩ := h
  exact ⟨b, cap, e, hc, hlo, Nat.lt_of_lt_of_le hb (Below.size k), fun o => (bl_froz k _ _ hb).trans (hf o), fun j x hj i u hu => (bl_cell k _ _ hb).trans (hx j x hj i u hu)⟩
/-- But for the blocks of S nothing has turned. -/
structure But (S : Nat → Prop) (w w' : World) : Prop where
  os : w'.os = w.os
  tape : w'.tape = w.tape
  output : w'.output = w.output
  size : w.heap.size ≤ w'.heap.size
  block : ∀ k, k < w.heap.size → ¬ S k → w'.heap[k]? = w.heap[k]?
theorem But.of_bl {S : Nat → Prop} {w w' : World} (h : Bl w w') : But S w w' := ⟨Below.os h, Below.tape h, Below.output h, Below.size h, fun k hk _ => Below.block h k hk⟩
theorem But.refl (S : Nat → Prop) (w : World) : But S w w := But.of_bl (Bl.refl w)
theorem But.trans {S : Nat → Prop} {a b c : World} (h : But S a b) (k : But S b c) : But S a c :=
  ⟨k.os.trans h.os, k.tape.trans h.tape, k.output.trans h.output, Nat.le_trans h.size k.size, fun i hi hs => (k.block i (Nat.lt_of_lt_of_le hi h.size) hs).trans (h.block i hi hs)⟩
theorem But.mono {S T : Nat → Prop} {a b : World} (h : But S a b) (k : ∀ i, S i → T i) : But T a b := ⟨h.os, h.tape, h.output, h.size, fun i hi hs => h.block i hi fun e => hs (k i e)⟩
theorem But.cell {S : Nat → Prop} {a b : World} (h : But S a b) (g o : Nat) (hg : g < a.heap.size) (hs : ¬ S g) : b.cell? ⟨g, o, none⟩ = a.cell? ⟨g, o, none⟩ := World.cell?_of_block (a := ⟨g, o, none⟩) (h.block g hg hs)
theorem But.froz {S : Nat → Prop} {a b : World} (h : But S a b) (g o : Nat) (hg : g < a.heap.size) (hs : ¬ S g) : b.frozen? ⟨g, o, none⟩ = a.frozen? ⟨g, o, none⟩ := World.frozen?_of_block (a := ⟨g, o, none⟩) (h.block g hg hs)
theorem But.bl {S : Nat → Prop} {a b c : World} (h : But S b c) (k : Bl a b) (hs : ∀ i, S i → a.heap.size ≤ i) : Bl a c :=
  ⟨h.os.trans (Below.os k), h.tape.trans (Below.tape k), h.output.trans (Below.output k), Nat.le_trans (Below.size k) h.size, fun i hi => (h.block i (Nat.lt_of_lt_of_le hi (Below.size k)) fun e => by have := hs i e; omega).trans (Below.block k i hi)⟩
theorem Rw.but {α : Type} {s : Nat} {c : α → List Value} {w w' : World} {v : Value} {xs : List α} {S : Nat → Prop} (h : Rw s c w v xs) (k : But S w w') (hs : ∀ g, v.ownBlock = some g → ¬ S g) : Rw s c w' v xs := by
  rcases h with h | ⟨b, o, cap, rfl, hc, hb, hx⟩
  · exact .inl h
  · exact .inr ⟨b, o, cap, rfl, hc, Nat.lt_of_lt_of_le hb k.size, fun j x hj i u hu => (k.cell _ _ hb (hs b rfl)).trans (hx j x hj i u hu)⟩
theorem RwZ.but {α : Type} {s : Nat} {c : α → List Value} {w w' : World} {lo : Nat} {v : Value} {xs : List α} {S : Nat → Prop} (h : RwZ s c w lo v xs) (k : But S w w') (hs : ∀ g, v.ownBlock = some g → ¬ S g) : RwZ s c w' lo v xs := by
  obtain ⟨b, cap, rfl, hc, hlo, hb, hf, hx⟩ := h
  exact ⟨b, cap, rfl, hc, hlo, Nat.lt_of_lt_of_le hb k.size, fun o => (k.froz _ _ hb (hs b rfl)).trans (hf o), fun j x hj i u hu => (k.cell _ _ hb (hs b rfl)).trans (hx j x hj i u hu)⟩
/-- Cells set one behind the other. -/
theorem but_setCells {S : Nat → Prop} {b : Nat} (hb : S b) : ∀ (vs : List Value) (o : Nat) (w0 w : World), But S w0 w → But S w0 (w.setCells b o vs)
  | [], _, _, _, h => h
  | v :: r, o, w0, w, h => by
    show But S w0 ((w.setCell ⟨b, o, none⟩ v).setCells b (o + 1) r)
    refine but_setCells hb r (o + 1) w0 _ ⟨h.os, h.tape, h.output, by simpa using h.size, fun k hk hs => ?_⟩
    exact (Below.heap_setCell _ _ _ k (show k ≠ b from fun e => hs (e ▸ hb))).trans (h.block k hk hs)
theorem setCells_size (b : Nat) : ∀ (vs : List Value) (o : Nat) (w : World), (w.setCells b o vs).heap.size = w.heap.size
  | [], _, _ => rfl
  | v :: r, o, w => by show ((w.setCell ⟨b, o, none⟩ v).setCells b (o + 1) r).heap.size = _; rw [setCells_size b r]; simp
/-- n rows of m numbers each, in blocks of their own, none of them that of the table. -/
structure Tbl {α : Type} (s : Nat) (c : α → List Value) (w : World) (H : Nat) (B cp : Nat → Nat) (n m : Nat) (a : Nat → Nat → α) : Prop where
  hdr : ∀ i, i < n → w.cell? ⟨H, i, none⟩ = some (.slice (some ⟨B i, 0, none⟩) m (cp i))
  hlt : H < w.heap.size
  blt : ∀ i, i < n → B i < w.heap.size
  inj : ∀ i j, i < n → j < n → B i = B j → i = j
  hne : ∀ i, i < n → B i ≠ H
  cap : ∀ i, i < n → m ≤ cp i
  cells : ∀ i j, i < n → j < m → ∀ k u, (c (a i j))[k]? = some u → w.cell? ⟨B i, j * s + k, none⟩ = some u
  froz : ∀ i, i < n → ∀ o, w.frozen? ⟨B i, o, none⟩ = false
/-- The blocks of its rows. -/
def InT (B : Nat → Nat) (n : Nat) (g : Nat) : Prop := ∃ i, i < n ∧ g = B i
theorem Tbl.later {α : Type} {s : Nat} {c : α → List Value} {w w' : World} {H : Nat} {B cp : Nat → Nat} {n m : Nat} {a : Nat → Nat → α} (h : Tbl s c w H B cp n m a) (k : Bl w w') : Tbl s c w' H B cp n m a :=
  ⟨fun i hi => (bl_cell k _ _ h.hlt).trans (h.hdr i hi), Nat.lt_of_lt_of_le h.hlt (Below.size k), fun i hi => Nat.lt_of_lt_of_le (h.blt i hi) (Below.size k), h.inj, h.hne, h.cap,
    fun i j hi hj x u hu => (bl_cell k _ _ (h.blt i hi)).trans (h.cells i j hi hj x u hu), fun i hi o => (bl_froz k _ _ (h.blt i hi)).trans (h.froz i hi o)⟩
theorem Tbl.congr {α : Type} {s : Nat} {c : α → List Value} {w : World} {H : Nat} {B cp : Nat → Nat} {n m : Nat} {a b : Nat → Nat → α} (h : Tbl s c w H B cp n m a) (e : ∀ i j, i < n → j < m → a i j = b i j) : Tbl s c w H B cp n m b :=
  { h with cells := fun i j hi hj => by rw [← e i j hi hj]; exact h.cells i j hi hj }
/-- A part of a row. -/
theorem Tbl.part {α : Type} {s : Nat} {c : α → List Value} {w : World} {H : Nat} {B cp : Nat → Nat} {n m : Nat} {a : Nat → Nat → α} (h : Tbl s c w H B cp n m a) {i k : Nat} (hi : i < n) (hk : k ≤ m) :
    Rq s c w (.slice (some ⟨B i, k * s, none⟩) (m - k) (cp i - k)) (tailH m k (a i)) := by
  have hc := h.cap i hi
  refine .inr ⟨B i, k * s, cp i - k, by simp [tailH], by simp [tailH]; omega, h.blt i hi, fun j x hj q u hu => ?_⟩
  unfold tailH at hj
  have hjl : j < m - k := by have := (List.getElem?_eq_some_iff.1 hj).1; simpa using this
  simp [hjl] at hj
  subst hj
  have := h.cells i (k + j) hi (by omega) q u hu
  rwa [Nat.add_mul] at this
theorem Tbl.first {α : Type} {s : Nat} {c : α → List Value} {w : World} {H : Nat} {B cp : Nat → Nat} {n m : Nat} {a : Nat → Nat → α} (h : Tbl s c w H B cp n m a) {i q : Nat} (hi : i < n) (hq : q ≤ m) :
    Rq s c w (.slice (some ⟨B i, 0, none⟩) q (cp i)) (rowM q a i) := by
  have hc := h.cap i hi
  refine .inr ⟨B i, 0, cp i, by simp [rowM_len], by simp [rowM_len]; omega, h.blt i hi, fun j x hj t u hu => ?_⟩
  have hjl : j < q := by have := (List.getElem?_eq_some_iff.1 hj).1; rwa [rowM_len] at this
  rw [rowM_get a i hjl] at hj
  cases hj
  have := h.cells i j hi (by omega) t u hu
  rwa [Nat.zero_add]
theorem cell_set_some {w : World} {b : Nat} {vs : List Value} {o : Nat} (hs : ∀ j, j < vs.length → (w.cell? ⟨b, o + j, none⟩).isSome = true) {q : Nat} (hq : o ≤ q) (hq2 : q < o + vs.length) {u : Value} (hu : vs[q - o]? = some u) : (w.setCells b o vs).cell? ⟨b, q, none⟩ = some u := by
  have h := World.cell?_setCells_in b vs o w hs (q - o) (by omega)
  rw [show o + (q - o) = q by omega] at h
  rw [h]
  rw [List.getElem?_eq_getElem (by omega)] at hu
  exact hu
theorem flat_get {α : Type} {s : Nat} {c : α → List Value} (hs : ∀ x, (c x).length = s) : ∀ (xs : List α) (i k : Nat) (x : α), xs[i]? = some x → k < s → (xs.flatMap c)[i * s + k]? = (c x)[k]?
  | [], i, k, x, h, _ => by simp at h
  | y :: ys, 0, k, x, h, hk => by
    simp at h
    subst h
    rw [List.flatMap_cons, List.getElem?_append_left (by rw [hs]; omega), Nat.zero_mul, Nat.zero_add]
  | y :: ys, i + 1, k, x, h, hk => by
    rw [List.flatMap_cons, List.getElem?_append_right (by rw [hs, Nat.add_mul]; omega), hs, show (i + 1) * s + k - s = i * s + k by rw [Nat.add_mul]; omega]
    exact flat_get hs ys i k x (by simpa using h) hk
/-- A part of a row set anew. -/
theorem Tbl.put {α : Type} {s : Nat} {c : α → List Value} (hs : ∀ x, (c x).length = s) {w : World} {H : Nat} {B cp : Nat → Nat} {n m : Nat} {a b : Nat → Nat → α} (h : Tbl s c w H B cp n m a) {i k : Nat} {xs : List α} (hi : i < n) (hk : k + xs.length ≤ m)
    (e1 : ∀ j, j < xs.length → xs[j]? = some (b i (k + j))) (e2 : ∀ i' j, i' < n → j < m → ¬ (i' = i ∧ k ≤ j ∧ j < k + xs.length) → b i' j = a i' j) :
    Tbl s c (w.setCells (B i) (k * s) (xs.flatMap c)) H B cp n m b ∧ But (InT B n) w (w.setCells (B i) (k * s) (xs.flatMap c)) := by
  have hb : But (InT B n) w (w.setCells (B i) (k * s) (xs.flatMap c)) := but_setCells ⟨i, hi, rfl⟩ _ _ _ _ (But.refl _ _)
  have hfl := flat_len hs xs
  have some : ∀ j, j < (xs.flatMap c).length → (w.cell? ⟨B i, k * s + j, none⟩).isSome = true := fun j hj => by
    rw [hfl] at hj
    have hs0 : 0 < s := by rcases Nat.eq_zero_or_pos s with e | e; · subst e; simp at hj
                           · exact e
    have hd : j / s < xs.length := by rw [Nat.div_lt_iff_lt_mul hs0]; exact hj
    have hm : j % s < s := Nat.mod_lt _ hs0
    have hj' : j = j / s * s + j % s := by rw [Nat.mul_comm]; exact (Nat.div_add_mod j s).symm
    have := h.cells i (k + j / s) hi (by omega) (j % s) _ (List.getElem?_eq_getElem (by rw [hs]; exact hm))
    rw [show k * s + j = (k + j / s) * s + j % s by rw [Nat.add_mul]; omega, this]
    rfl
  refine ⟨⟨fun i' hi' => ?_, by rw [setCells_size]; exact h.hlt, fun i' hi' => by rw [setCells_size]; exact h.blt i' hi', h.inj, h.hne, h.cap, fun i' j hi' hj q u hu => ?_, fun i' hi' o => by rw [World.frozen?_setCells]; exact h.froz i' hi' o⟩, hb⟩
  · rw [World.cell?_setCells_out _ _ _ _ _ (fun e _ => absurd e.symm (h.hne i hi))]
    exact h.hdr i' hi'
  · by_cases hin : i' = i ∧ k ≤ j ∧ j < k + xs.length
    · obtain ⟨rfl, h1, h2⟩ := hin
      have hql : q < s := by have := (List.getElem?_eq_some_iff.1 hu).1; rwa [hs] at this
      have hx := e1 (j - k) (by omega)
      rw [show k + (j - k) = j by omega] at hx
      have hg := flat_get hs xs (j - k) q _ hx hql
      rw [hu] at hg
      have hjk : j * s = k * s + (j - k) * s := by rw [← Nat.add_mul]; congr 1; omega
      have hle : (j - k) * s + s ≤ xs.length * s := by rw [← Nat.succ_mul]; exact Nat.mul_le_mul_right _ (by omega)
      refine cell_set_some some (by omega) (by rw [hfl]; omega) ?_
      rw [show j * s + q - k * s = (j - k) * s + q by omega]
      exact hg
    · have ho := e2 i' j hi' hj hin
      rw [ho] at hu
      have hql : q < s := by have := (List.getElem?_eq_some_iff.1 hu).1; rwa [hs] at this
      rw [World.cell?_setCells_out _ _ _ _ _ (fun e _ => ?_)]
      · exact h.cells i' j hi' hj q u hu
      · simp only at e
        have hii : i' = i := h.inj i' i hi' hi e
        subst hii
        have hcase : j < k ∨ k + xs.length ≤ j := by
          rcases Nat.lt_or_ge j k with h1 | h1
          · exact .inl h1
          · exact .inr (Nat.le_of_not_lt fun h2 => hin ⟨rfl, h1, h2⟩)
        simp only
        rw [hfl]
        rcases hcase with h1 | h1
        · left
          have : (j + 1) * s ≤ k * s := Nat.mul_le_mul_right _ h1
          rw [Nat.add_mul] at this
          omega
        · right
          have : (k + xs.length) * s ≤ j * s := Nat.mul_le_mul_right _ h1
          rw [Nat.add_mul] at this
          omega
end Go.Proofs.YthnadgbloamlaaaGreat

/- A region that draws its order, over any frame, inside any fence: its operations keep a relation of worlds, stores among them; one fact an operation, whatever their order. -/
namespace Go.Proofs.YthnadgbloamlaaaGreat
open Go.RowKit
set_option linter.unusedSimpArgs false
set_option linter.unusedVariables false

/-- What must hold of the operations, by reckoning. -/
def wellR (ops : Array Oper) (ds : List (Option Nat)) : Bool :=
  lowB2 ops && onceB ds && (ds.length == ops.size) && (List.range ops.size).all fun j => match ops[j]? with
    | none => true
    | some o => o.guard.isNone && (ds[j]? == some o.dst)
/-- Between two of a region's operations. -/
structure RR (R : World → World → Prop) (W : World) (a : Act) (ops : Array Oper) (ds : List (Option Nat)) (facts : Nat → Value → World → Prop) (L : Nat → Bool) (act : Act) (u : World) : Prop where
  size : act.tmps.size = a.tmps.size
  defers : act.defers = a.defers
  frame : ∀ t, (∀ j, L j = true → ds[j]? ≠ some (some t)) → act.eval (.tmp t) = a.eval (.tmp t)
  rel : R W u
  val : ∀ (j t : Nat), ds[j]? = some (some t) → L j = true → facts j (act.eval (.tmp t)) u
  non : ∀ (j : Nat), ds[j]? = some none → L j = true → facts j undef u
theorem once_ne {ds : List (Option Nat)} (ho : onceB ds = true) : ∀ (i j t t' : Nat), ds[i]? = some (some t) → ds[j]? = some (some t') → i ≠ j → t ≠ t' := by
  have : ∀ (ds : List (Option Nat)), onceB ds = true → ∀ (i j t t' : Nat), ds[i]? = some (some t) → ds[j]? = some (some t') → i < j → t ≠ t' := by
    intro ds
    induction ds with
    | nil => intro _ i j t t' h; simp at h
    | cons d ds ih =>
      intro ho i j t t' h1 h2 hij
      simp only [onceB, Bool.and_eq_true] at ho
      cases j with
      | zero => omega
      | succ j =>
        cases i with
        | zero =>
          simp at h1 h2
          subst h1
          have := ho.1
          simp at this
          exact fun e => this _ (List.mem_of_getElem? h2) (by rw [e])
        | succ i => exact ih ho.2 i j t t' (by simpa using h1) (by simpa using h2) (by omega)
  intro i j t t' h1 h2 hij
  rcases Nat.lt_or_gt_of_ne hij with h | h
  · exact this ds ho i j t t' h1 h2 h
  · exact (this ds ho j i t' t h2 h1 h).symm
theorem region_r {F : Fence} {n : Nat} {P : Program} {ops : Array Oper} {Q : Exit → Act → World → Prop} {a : Act} {W : World} {id : Nat} (hm : P.follows .mixedOrders = true) (R : World → World → Prop) (ds : List (Option Nat)) (hw : wellR ops ds = true)
    (hsz0 : ds.all (fun d => match d with | some t => Nat.blt t a.tmps.size | none => true) = true) (h0 : R W W.drew) (hR : ∀ {x y z}, R x y → R y z → R x z) (facts : Nat → Value → World → Prop) (mono : ∀ j v u u', R W u → R u u' → facts j v u → facts j v u')
    (step : ∀ (j : Nat) (o : Oper) (act : Act) (u : World), ops[j]? = some o → act.tmps.size = a.tmps.size → R W u → (∀ t, some t ∉ ds → act.eval (.tmp t) = a.eval (.tmp t)) → (∀ e ∈ o.after, Region.binds .any e = true → ∀ t, ds[e.on]? = some (some t) → facts e.on (act.eval (.tmp t)) u) → (∀ e ∈ o.after, Region.binds .any e = true → ds[e.on]? = some none → facts e.on undef u) →
      Oper.wpIn F n P o act u (fun act' u' => ∃ v, act' = act.put o.dst v ∧ facts j (if o.dst.isSome then v else undef) u' ∧ R u u') Q)
    (fin : ∀ (vs : Nat → Value) (u : World), R W u → (∀ (j : Nat) (t : Nat), ds[j]? = some (some t) → facts j (vs j) u) → (∀ (j : Nat), ds[j]? = some none → facts j undef u) → Q .normal (putL ds vs 0 a) u) :
    (Code.region id ops true).wpIn F n P Q a W := by
  simp only [wellR, Bool.and_eq_true] at hw
  obtain ⟨⟨⟨hlow, honce⟩, hlen⟩, hall'⟩ := hw
  have hlen' : ds.length = ops.size := by simpa using hlen
  have key : ∀ (j : Nat) (o : Oper), ops[j]? = some o → o.guard = none ∧ ds[j]? = some o.dst := fun j o ho => by
    have := List.all_eq_true.1 hall' j (by simpa using (Array.getElem?_eq_some_iff.1 ho).1)
    rw [ho] at this
    simpa using this
  have hsz : ∀ t, some t ∈ ds → t < a.tmps.size := fun t ht => by have := List.all_eq_true.1 hsz0 _ ht; rw [Nat.blt_eq] at this; exact this
  have hlt : ∀ (j : Nat) d, ds[j]? = some d → j < ops.size := fun j d h => by have := (List.getElem?_eq_some_iff.1 h).1; rw [hlen'] at this; exact this
  have hne := once_ne honce
  refine region_facts2 hm (lowB2_low hlow) (RR R W a ops ds facts) ?_ ?_ ?_
  · exact ⟨rfl, rfl, fun _ _ => rfl, h0, (by intro _ _ _ h; cases h), (by intro _ _ h; cases h)⟩
  · intro L act u i o hI ho hLi hall
    refine step_wp ho (key i o ho).1 ?_
    have hdi := (key i o ho).2
    have hfr : ∀ t, some t ∉ ds → act.eval (.tmp t) = a.eval (.tmp t) := fun t ht => hI.frame t (fun j _ e => ht (List.mem_of_getElem? e))
    refine Oper.wpIn_mono ?_ (step i o act u ho hI.size hI.rel hfr (fun e he hbe t' ht' => hI.val e.on t' ht' (hall e he hbe)) (fun e he hbe hd => hI.non e.on hd (hall e he hbe)))
    rintro act' u' ⟨v, rfl, hf, hr⟩
    have hval : ∀ (j t : Nat), ds[j]? = some (some t) → (L j || (j == i)) = true → facts j ((act.put o.dst v).eval (.tmp t)) u' := fun j t h hj => by
      by_cases e : j = i
      · subst e
        rw [hdi] at h
        have hd : o.dst = some t := Option.some.inj h
        rw [hd] at hf ⊢
        rw [eval_put_same (by rw [hI.size]; exact hsz t (List.mem_of_getElem? (by rw [hdi, hd])))]
        exact hf
      · have hLj : L j = true := by
          rw [Bool.or_eq_true] at hj
          rcases hj with hj | hj
          · exact hj
          · exact absurd (by simpa using hj) e
        rw [eval_put_ne (fun e2 => hne j i t t h (by rw [hdi, e2]) e rfl)]
        exact mono j _ u u' hI.rel hr (hI.val j t h hLj)
    refine ⟨by rw [size_put]; exact hI.size, by rw [defers_put]; exact hI.defers, fun t ht => ?_, hR hI.rel hr, hval, fun j hd hj => ?_⟩
    · rw [eval_put_ne (fun e => ht i (by simp) (by rw [hdi, e]))]
      exact hI.frame t (fun j hj => ht j (by rw [hj]; rfl))
    · by_cases e : j = i
      · subst e
        rw [hdi] at hd
        have hd' : o.dst = none := Option.some.inj hd
        rw [hd'] at hf
        exact hf
      · have hLj : L j = true := by
          rw [Bool.or_eq_true] at hj
          rcases hj with hj | hj
          · exact hj
          · exact absurd (by simpa using hj) e
        exact mono j _ u u' hI.rel hr (hI.non j hd hLj)
  · intro L act u hI hall
    have hL : ∀ j d, ds[j]? = some d → L j = true := fun j d h => hall j (hlt j d h)
    have e : act = putL ds (fun j => act.eval (.tmp ((ds[j]?.getD none).getD 0))) 0 a := by
      refine act_ext (by rw [putL_size]; exact hI.size) (by rw [putL_defers]; exact hI.defers) fun t ht => ?_
      by_cases hm' : some t ∈ ds
      · obtain ⟨j, hj⟩ := List.getElem?_of_mem hm'
        rw [putL_at ds _ t j 0 a honce hj (by rw [← hI.size]; exact ht), Nat.zero_add, hj]
        rfl
      · rw [putL_other ds _ t 0 a (fun d hd e => hm' (by rw [← e]; exact hd))]
        exact hI.frame t (fun j _ e => hm' (List.mem_of_getElem? e))
    rw [e]
    exact fin _ u hI.rel (fun j t h => by have := hI.val j t h (hL j _ h); simpa [h] using this) (fun j h => hI.non j h (hL j _ h))
end Go.Proofs.YthnadgbloamlaaaGreat

/- Worlds between which nothing has turned but two blocks, each stored once. -/
namespace Go.Proofs.YthnadgbloamlaaaGreat
open Go.RowKit
set_option linter.unusedSimpArgs false
set_option linter.unusedVariables false

theorem Mx.but {α : Type} {s : Nat} {c : α → List Value} {w w' : World} {R C : Nat} {p : Option Addr} {n cap : Nat} {f : Nat → Nat → α} {S : Nat → Prop} (h : Mx s c w R C p n cap f) (k : But S w w') (hs : ∀ g, (Value.slice p n cap).ownBlock = some g → ¬ S g) : Mx s c w' R C p n cap f :=
  ⟨h.1, h.2.1, by
    rcases h.2.2 with h | ⟨b, o, cap', e, hc, hb, hx⟩
    · exact .inl h
    · exact .inr ⟨b, o, cap', e, hc, Nat.lt_of_lt_of_le hb k.size, fun j x hj i u hu => (k.cell _ _ hb (hs b (by rw [e]; rfl))).trans (hx j x hj i u hu)⟩⟩
theorem MBox.but {w w' : World} {b : Nat} {r c : Int} {p : Option Addr} {n cap : Nat} {S : Nat → Prop} (h : MBox w b r c p n cap) (k : But S w w') (hs : ¬ S b) : MBox w' b r c p n cap :=
  ⟨(k.cell _ _ h.lt hs).trans h.c0, (k.cell _ _ h.lt hs).trans h.c1, (k.cell _ _ h.lt hs).trans h.c2, (k.froz _ _ h.lt hs).trans h.f0, (k.froz _ _ h.lt hs).trans h.f1, (k.froz _ _ h.lt hs).trans h.f2, Nat.lt_of_lt_of_le h.lt k.size⟩
theorem SBox.heap {w w' : World} {b : Nat} {px : Option Addr} {nx cx : Nat} {r c : Int} {p : Option Addr} {n cap : Nat} (h : SBox w b px nx cx r c p n cap) (e : w'.heap[b]? = w.heap[b]?) (hs : w.heap.size ≤ w'.heap.size) : SBox w' b px nx cx r c p n cap :=
  ⟨(World.cell?_of_block (a := ⟨b, 0, none⟩) e).trans h.c0, (World.cell?_of_block (a := ⟨b, 1, none⟩) e).trans h.c1, (World.cell?_of_block (a := ⟨b, 2, none⟩) e).trans h.c2, (World.cell?_of_block (a := ⟨b, 3, none⟩) e).trans h.c3,
   (World.frozen?_of_block (a := ⟨b, 0, none⟩) e).trans h.f0, (World.frozen?_of_block (a := ⟨b, 1, none⟩) e).trans h.f1, (World.frozen?_of_block (a := ⟨b, 2, none⟩) e).trans h.f2, (World.frozen?_of_block (a := ⟨b, 3, none⟩) e).trans h.f3, Nat.lt_of_lt_of_le h.lt hs⟩
/-- Nothing but blocks g and l has turned; each, if it turned, is as it shall be. -/
structure TwoJ (g l : Nat) (G T : World → Prop) (x y : World) : Prop where
  but : But (fun i => i = g ∨ i = l) x y
  g8 : y.heap[g]? = x.heap[g]? ∨ G y
  l9 : y.heap[l]? = x.heap[l]? ∨ T y
theorem TwoJ.bl {g l : Nat} {G T : World → Prop} {x y : World} (h : Bl x y) (hg : g < x.heap.size) (hl : l < x.heap.size) : TwoJ g l G T x y :=
  ⟨But.of_bl h, .inl (Below.block h g hg), .inl (Below.block h l hl)⟩
theorem TwoJ.trans {g l : Nat} {G T : World → Prop} (hG : ∀ x y, G x → But (fun i => i = g ∨ i = l) x y → y.heap[g]? = x.heap[g]? → G y) (hT : ∀ x y, T x → But (fun i => i = g ∨ i = l) x y → y.heap[l]? = x.heap[l]? → T y) {x y z : World} (h : TwoJ g l G T x y) (k : TwoJ g l G T y z) : TwoJ g l G T x z := by
  refine ⟨h.but.trans k.but, ?_, ?_⟩
  · rcases k.g8 with e | t
    · rcases h.g8 with e' | t
      · exact .inl (e.trans e')
      · exact .inr (hG _ _ t k.but e)
    · exact .inr t
  · rcases k.l9 with e | t
    · rcases h.l9 with e' | t
      · exact .inl (e.trans e')
      · exact .inr (hT _ _ t k.but e)
    · exact .inr t
theorem but_cell1 {S : Nat → Prop} {b : Nat} (hb : S b) (o : Nat) (v : Value) (u : World) : But S u (u.setCell ⟨b, o, none⟩ v) :=
  ⟨rfl, rfl, rfl, by simp, fun k _ hs => Below.heap_setCell _ _ _ k (by show k ≠ b; exact fun e => hs (e ▸ hb))⟩
theorem heap1 {g l : Nat} (u : World) (h : l ≠ g) (o : Nat) (v : Value) : (u.setCell ⟨g, o, none⟩ v).heap[l]? = u.heap[l]? := Below.heap_setCell _ _ _ l (by show l ≠ g; exact h)
end Go.Proofs.YthnadgbloamlaaaGreat

/- mat's Apply, of fractions (layer 6). -/
namespace Go.Proofs.YthnadgbloamlaaaGreat
open Go.RowKit Go.Shelf
set_option linter.unusedSimpArgs false
set_option linter.unusedVariables false
attribute [local go_sem] Oper.semAt_some

set_option maxRecDepth 100000 in
set_option maxHeartbeats 4000000 in
theorem mApplyF' (R M : Nat) (p : Option Addr) (n cap : Nat) (f : Nat → Nat → Fr) (q : Option Addr) (cap2 : Nat) (xs : List Fr) (w : World) (hx : Mx 3 cellsF w R M p n cap f) (hy : Rq 3 cellsF w (.slice q M cap2) xs) (hl : xs.length = M) :
    Calls Tryz.prog 90 #[mV R M p n cap, .slice q M cap2] w fun e w' => ∃ p' cap', e = .returned (.tuple #[.slice p' R cap', .bool true]) ∧ Rw 3 cellsF w' (.slice p' R cap') ((List.range R).map fun i => dotF (rowM M f i) xs) ∧ Fresh w.heap.size (.slice p' R cap') ∧ Bl w w' := by
  obtain ⟨i0, hi, hz0, hz1, hz2⟩ := info_parts Tryz.info_F
  refine (callsIn_wide (n := 8)).1 ?_
  have hfx := hx.fit
  have hdR := hx.1
  have hR16 := hdR.r2
  have hM16 := hdR.c2
  have HXm := hideP hx
  have HYm := hideP hy
  have HL := hideP hl
  clear hx hy hl
  obtain ⟨W, hW⟩ : ∃ W, W = (w.alloc (.cells #[.int .i64 R, .int .i64 M, .slice p n cap] 60)).alloc (.cells #[.slice q M cap2] 58) := ⟨_, rfl⟩
  have b0 : Bl w W := by rw [hW]; exact ((Bl.refl _).alloc _).alloc _
  have mx0 : MBox W w.heap.size R M p n cap := by rw [hW]; exact (MBox.new w _ _ _ _ _ _).later ((Bl.refl _).alloc _)
  have my0 : Boxed W (w.heap.size + 1) 58 (.slice q M cap2) := by rw [hW]; have := Boxed.new (w.alloc (.cells #[.int .i64 R, .int .i64 M, .slice p n cap] 60)) 58 (.slice q M cap2); rw [World.size_alloc] at this; exact this
  have hs0 : W.heap.size = w.heap.size + 1 + 1 := by rw [hW]; simp
  have HW := hideP hW
  clear hW
  refine callsIn_of_wp_marks Tryz.func90 rfl trivial ?_ rfl
  simp only [Tryz.ntmps90, List.size_toArray, List.length_cons, List.length_nil, Nat.reduceAdd, Nat.reduceSub, Array.replicate_succ, Array.replicate_zero, List.push_toArray, List.append_toArray, List.nil_append, List.cons_append]
  gi_wp2_with fail
  rw [← HW.out]
  refine ⟨trivial, ?_⟩
  refine (callsIn_wide.2 (mRightF _ _ _ _ _ _)).mono ?_
  rintro e w5 ⟨rfl, h5⟩
  rw [hfx]
  have mx5 := mx0.later h5
  have my5 := boxed_bl my0 h5
  have bw5 : Bl w w5 := b0.trans h5
  obtain ⟨c0, c1, c2, f0, f1, f2, lt⟩ := id mx5
  have d0 := my5.cell
  gi_wp2_with (gi_at_make; refine wpListIn_make_own _ rfl _ _ 58 rfl w5.heap.size 64 i0 (.agg #[.int .i64 0, .int .i64 0, .bool false]) 3 Tryz.underlying58 hi hz0 hz1 .i64 .i64 _ R rfl rfl (by simp) (by rw [hz2]; omega) (by unfold maxLen; omega) (by simp) ?_; intro w6 hown0 hgrow0; have mx6 := mbox_block mx5 (hgrow0.block _ mx5.lt nofun) hgrow0.size; clear c0 c1 c2 f0 f1 f2 d0 lt; obtain ⟨c0, c1, c2, f0, f1, f2, lt⟩ := mx6)
  have h56 : Bl w5 w6 := ⟨hgrow0.os, hgrow0.tape, hgrow0.output, hgrow0.size, fun k hk => hgrow0.block k hk nofun⟩
  have hs6 : w5.heap.size ≤ w6.heap.size := hgrow0.size
  obtain ⟨w6b, hw6b⟩ : ∃ w6b, w6b = w6.alloc (.cells #[.slice (some ⟨w5.heap.size, 0, none⟩) 0 R] 58) := ⟨_, rfl⟩
  have h6b : Bl w6 w6b := by rw [hw6b]; exact (Bl.refl _).alloc _
  have hs6b : w6b.heap.size = w6.heap.size + 1 := by rw [hw6b]; simp
  have bl6 : Boxed w6b w6.heap.size 58 (.slice (some ⟨w5.heap.size, 0, none⟩) 0 R) := by rw [hw6b]; exact Boxed.new w6 _ _
  have hown6 : w6b.ownsRow w5.heap.size 64 3 (.slice (some ⟨w5.heap.size, 0, none⟩) 0 R) 0 [] := own_blF hown0 h6b
  have hlt5 : w5.heap.size < w6b.heap.size := by have := (hown6.lt w5.heap.size rfl).2; exact this
  have HW6 := hideP hw6b
  clear hw6b hown0 hgrow0 c0 c1 c2 f0 f1 f2 lt
  rw [← HW6.out]
  refine ⟨trivial, ?_⟩
  refine (callsIn_wide.2 (mAllF _ _ _ _ _ f _ (HXm.out.later ((bw5.trans h56).trans h6b)))).mono ?_
  rintro e w7 ⟨B2, p2, cap5, rfl, hK7, h7⟩
  have HK7 := hideP hK7
  clear hK7
  have hs7 : w6.heap.size + 1 ≤ w7.heap.size := by have := h7.size; omega
  have b57 : Below w5.heap.size w5 w7 := (h56.trans h6b).trans h7
  have bl7 := boxed_bl bl6 h7
  have own7 := own_blF hown6 h7
  clear bl6 hown6
  gi_wp2_with fail
  refine rangeV rfl (by omega) (gf := 174) (lb := #[.pointer (some ⟨B2, 0, none⟩)]) rfl trivial (enters_of Tryz.func174 (by kernel_rfl) rfl)
    (seqMF 7 B2 _ w7.heap.size R M p2 n cap5 f w7 (Nat.le_refl _) HK7.out) (fun x A B h => h.1) (fun h k => h.trans k) (span_b (Nat.le_refl _)) (fun _ => rfl)
    (fun (pre : List RowX) U => (∃ v, Boxed U w6.heap.size 58 v ∧ U.ownsRow w5.heap.size 64 3 v (pre.map fun x : RowX => dotF (rowM M f x.1) xs).length ((pre.map fun x : RowX => dotF (rowM M f x.1) xs).flatMap cellsF) ∧ (∀ b, v.ownBlock = some b → b < w6b.heap.size ∨ w7.heap.size ≤ b)) ∧ (Below w5.heap.size w5 U ∧ w7.heap.size ≤ U.heap.size))
    (fun _ _ _ => False)
    (OwnFrom.and (Own.from (holdsRow_own w5.heap.size w6.heap.size 58 64 3 (fun pre : List RowX => (pre.map fun x : RowX => dotF (rowM M f x.1) xs).length) (fun pre : List RowX => (pre.map fun x : RowX => dotF (rowM M f x.1) xs).flatMap cellsF) (fun _ v => ∀ b, v.ownBlock = some b → b < w6b.heap.size ∨ w7.heap.size ≤ b)) _) (OwnFrom.and (ownFrom_below (Nat.le_refl _) b57.size) (own_size _ _)))
    (fun _ _ _ _ _ hs _ _ => hs)
    ⟨⟨_, bl7, own7, fun b hb => by cases hb; exact .inl hlt5⟩, b57, Nat.le_refl _⟩
    (fun a x a' U => Rw 3 cellsF U (rowV M x) (rowM M f x.1) ∧ a' = { tmps := (((a.tmps.setIfInBounds 24 (.int .i64 x.1)).setIfInBounds 25 (rowV M x)).setIfInBounds 8 (rowV M x)), defers := [] })
    (fun x a' _ X Y row hs hg hr => ⟨rw_own hs.1 hg (fun r e => (hr r e).2), hs.2⟩)
    ?assign ?body ?done ?stop
  case assign =>
    rintro l pre x W0 U K' _ ⟨hbU, hxR, hrow, hfr, hcc⟩ hI hK'
    have HK2 := hideP hK'
    have HI := hideP hI
    clear hK' hI
    gi_wp2
    exact HK2.out _ _ (KeepsFrom.refl _ _) (Span.refl _ _ _) HI.out ⟨hrow, rfl⟩
  case body =>
    rintro l pre x a' U hl' ⟨r, hr'⟩ ⟨⟨v, hv, hrow, hgv⟩, hbU, hsU⟩ ⟨hrx, rfl⟩ hlt
    simp only [List.setIfInBounds_toArray, List.set_cons_zero, List.set_cons_succ]
    gi_wp2_with fail
    have hbv := boxed_bl (show Boxed w5 _ _ _ from my5) hbU
    have hC := fun u (hu : Bl U u) => vDotF (rowV M x) (.slice q M cap2) (rowM M f x.1) xs u (hrx.later hu).q (HYm.out.later ((bw5.trans hbU).trans hu)) (by rw [rowM_len]; omega) (by rw [HL.out]; omega)
    have hlen2 : (pre.map fun x : RowX => dotF (rowM M f x.1) xs).length ≤ 100000 := by rw [List.length_map]; omega
    refine dotAppendF (ops := _) rfl (by kernel_rfl) 26 6 94 (by simp) (by omega) ⟨rfl, rfl, rfl⟩ ⟨rfl, rfl⟩ ⟨rfl, rfl⟩ ⟨rfl, rfl, rfl⟩ ⟨rfl, rfl, rfl⟩ ⟨rfl, rfl, rfl⟩ ⟨rfl, rfl, rfl⟩ ⟨by simp, by simp⟩ (by simp) ⟨by simp, by simp⟩ (by simp)
      (rowV M x) (.slice q M cap2) (fun act u K' hfr hu hk => move_wp (.tmp 8) rfl (by rw [hfr 8 (by omega)]; exact hk))
      (fun act u K' hfr hu hk => load_wp 58 (.tmp 3) rfl (by rw [hfr 3 (by omega)]; exact Tryz.load1F (w.heap.size + 1) _ u (boxed_bl hbv hu).cell) hk)
      trivial (fun _ => by omega) (enters_of Tryz.func94 (by kernel_rfl) rfl) (dotF (rowM M f x.1) xs)
      (fun u hu => CallsIn.inRound l (callsIn_wide.2 (hC u hu)))
      w6.heap.size rfl v hv w5.heap.size (pre.map fun x : RowX => dotF (rowM M f x.1) xs) hrow hlen2 (by have := b57.size; omega) ?_
    intro act u0 w8 g' cap' k1 k2 k3 k4
    have hvu := boxed_bl hv k1
    have hru := own_blF hrow k1
    have hsu := k1.size
    have hu5 : w5.heap.size ≤ u0.heap.size := by have := b57.size; omega
    obtain ⟨hv5, hv6, hr6, hk6, hb6⟩ := boxed_appended hvu (by decide) hru hu5 (by omega) k3 k2
    have hg8 := k2.size
    refine ⟨(k1.keeps _).trans (hk6.from _), span_appended k1 (by omega) hgv k2 (by omega), ⟨_, hv6, ?_, ?_⟩, ?_, ?_⟩
    · rw [List.map_append]
      simpa [List.flatMap_append] using hr6
    · intro b hb
      have hb' : g' = b := by cases hb; rfl
      subst hb'
      rcases k4 with h | h
      · exact hgv _ h.symm
      · exact .inr (by omega)
    · exact hbU.trans ((k1.mono (by have := b57.size; omega)).trans hb6)
    · simp; omega
  case done =>
    rintro Dm zs U hD hS ⟨⟨v, hv, hrow, _⟩, hb5, hs7'⟩ hKD
    have e : (zs.map fun x : RowX => dotF (rowM M f x.1) xs) = (List.range R).map fun i => dotF (rowM M f i) xs := by rw [← hS, List.map_map]; rfl
    rw [e] at hrow
    have RW := Rw.of_own cellsF_len (ownsRow_putObj hrow (.deferred none) hKD rfl)
    obtain ⟨p', cap', hv', _, _⟩ := RW.cut
    rw [List.length_map, List.length_range] at hv'
    subst hv'
    have hcl := hv.cell
    have hbw : Bl w U := bw5.trans hb5
    have HFR := hideP (show Fresh w.heap.size (.slice p' R cap') from fun g hg => by have := (hrow.lt g hg).1; have := bw5.size; omega)
    have HRW := hideP RW
    have HKD := hideP hKD
    clear hrow RW hKD hv
    gi_wp2
    refine ⟨by simp, .inl ⟨_, _, rfl, run_takeDeferred HKD.out, ?_⟩⟩
    exact ⟨_, results_tmp2 rfl _ _ _, p', cap', rfl, HRW.out, HFR.out, Below.trans hbw (belowK_b (w := w) (Nat.le_refl _) U Dm _ _ (by have := bw5.size; have := b57.size; omega) HKD.out rfl rfl)⟩
  case stop =>
    rintro D' c pre U _ _ h _
    exact h.elim
end Go.Proofs.YthnadgbloamlaaaGreat

/- Contract of joseph's Update, of fractions (layer 9). Written by genJo.py. -/
namespace Go.Proofs.YthnadgbloamlaaaGreat
open Go.RowKit
set_option linter.unusedSimpArgs false
set_option linter.unusedVariables false

/-- The news as a value, and in a block. -/
abbrev newsVF (x y : Fr) : Value := .agg #[.int .i64 x.n, .int .i64 x.d, .bool x.bad, .int .i64 y.n, .int .i64 y.d, .bool y.bad]
structure NBoxF (w : World) (b : Nat) (x y : Fr) : Prop where
  c0 : w.cell? ⟨b, 0, none⟩ = some (.int .i64 x.n)
  c1 : w.cell? ⟨b, 1, none⟩ = some (.int .i64 x.d)
  c2 : w.cell? ⟨b, 2, none⟩ = some (.bool x.bad)
  c3 : w.cell? ⟨b, 3, none⟩ = some (.int .i64 y.n)
  c4 : w.cell? ⟨b, 4, none⟩ = some (.int .i64 y.d)
  c5 : w.cell? ⟨b, 5, none⟩ = some (.bool y.bad)
  f0 : w.frozen? ⟨b, 0, none⟩ = false
  f1 : w.frozen? ⟨b, 1, none⟩ = false
  f2 : w.frozen? ⟨b, 2, none⟩ = false
  f3 : w.frozen? ⟨b, 3, none⟩ = false
  f4 : w.frozen? ⟨b, 4, none⟩ = false
  f5 : w.frozen? ⟨b, 5, none⟩ = false
  lt : b < w.heap.size
theorem NBoxF.heap {w w' : World} {b : Nat} {x y : Fr} (h : NBoxF w b x y) (e : w'.heap[b]? = w.heap[b]?) (hs : w.heap.size ≤ w'.heap.size) : NBoxF w' b x y :=
  ⟨(World.cell?_of_block (a := ⟨b, 0, none⟩) e).trans h.c0, (World.cell?_of_block (a := ⟨b, 1, none⟩) e).trans h.c1, (World.cell?_of_block (a := ⟨b, 2, none⟩) e).trans h.c2, (World.cell?_of_block (a := ⟨b, 3, none⟩) e).trans h.c3, (World.cell?_of_block (a := ⟨b, 4, none⟩) e).trans h.c4, (World.cell?_of_block (a := ⟨b, 5, none⟩) e).trans h.c5, (World.frozen?_of_block (a := ⟨b, 0, none⟩) e).trans h.f0, (World.frozen?_of_block (a := ⟨b, 1, none⟩) e).trans h.f1, (World.frozen?_of_block (a := ⟨b, 2, none⟩) e).trans h.f2, (World.frozen?_of_block (a := ⟨b, 3, none⟩) e).trans h.f3, (World.frozen?_of_block (a := ⟨b, 4, none⟩) e).trans h.f4, (World.frozen?_of_block (a := ⟨b, 5, none⟩) e).trans h.f5, Nat.lt_of_lt_of_le h.lt hs⟩
theorem NBoxF.later {w w' : World} {b : Nat} {x y : Fr} (h : NBoxF w b x y) (k : Bl w w') : NBoxF w' b x y := h.heap (Below.block k b h.lt) (Below.size k)
theorem NBoxF.new (w : World) (x y : Fr) (t : TypeId) : NBoxF (w.alloc (.cells #[.int .i64 x.n, .int .i64 x.d, .bool x.bad, .int .i64 y.n, .int .i64 y.d, .bool y.bad] t)) w.heap.size x y := by
  refine ⟨?_, ?_, ?_, ?_, ?_, ?_, ?_, ?_, ?_, ?_, ?_, ?_, by simp⟩ <;> simp [go_sem]
theorem NBoxF.fill {u : World} {b : Nat} {x y : Fr} (h : NBoxF u b x y) (x' y' : Fr) : NBoxF ((((((u.setCell ⟨b, 0, none⟩ (.int .i64 x'.n)).setCell ⟨b, 1, none⟩ (.int .i64 x'.d)).setCell ⟨b, 2, none⟩ (.bool x'.bad)).setCell ⟨b, 3, none⟩ (.int .i64 y'.n)).setCell ⟨b, 4, none⟩ (.int .i64 y'.d)).setCell ⟨b, 5, none⟩ (.bool y'.bad)) b x' y' := by
  obtain ⟨c0, c1, c2, c3, c4, c5, f0, f1, f2, f3, f4, f5, lt⟩ := h
  refine ⟨?_, ?_, ?_, ?_, ?_, ?_, ?_, ?_, ?_, ?_, ?_, ?_, ?_⟩ <;> simp [go_sem, *]
theorem scale_linF (p : Option Addr) (n cap : Nat) (x : Nat → Fr) (b : Fr) (w : World) (h : Rw 3 cellsF w (.slice p n cap) (linJ n x)) (hl : n ≤ 1000000) :
    Calls Tryz.prog 97 #[.slice p n cap, frV b] w fun e w' => ∃ q c, e = .returned (.slice q n c) ∧ Rw 3 cellsF w' (.slice q n c) (linJ n fun i => mulR (x i) b) ∧ Bl w w' :=
  (vScaleF _ _ b w h (by rw [linJ_len]; exact hl)).mono fun e w' ⟨u, he, hr, hb⟩ => by
    rw [linJ_map] at hr
    obtain ⟨q, c, rfl, _, _⟩ := hr.cut
    rw [linJ_len] at hr he
    exact ⟨q, c, he, hr, hb⟩
theorem add_linF (p q : Option Addr) (n cap cap2 : Nat) (x y : Nat → Fr) (w : World) (h : Rq 3 cellsF w (.slice p n cap) (linJ n x)) (h2 : Rq 3 cellsF w (.slice q n cap2) (linJ n y)) (hl : n ≤ 1000000) :
    Calls Tryz.prog 96 #[.slice p n cap, .slice q n cap2] w fun e w' => ∃ q c, e = .returned (.slice q n c) ∧ (Rw 3 cellsF w' (.slice q n c) (linJ n fun i => addR (x i) (y i)) ∧ Fresh w.heap.size (.slice q n c)) ∧ Bl w w' :=
  (vAddF' _ _ _ _ w h h2 (by rw [linJ_len]; exact hl) (by rw [linJ_len]; exact hl)).mono fun e w' ⟨u, he, hr, hf, hb⟩ => by
    rw [linJ_zip] at hr
    obtain ⟨q, c, rfl, _, _⟩ := hr.cut
    rw [linJ_len] at hr hf he
    exact ⟨q, c, he, ⟨hr, hf⟩, hb⟩
theorem Tryz.buildNF (x y : Fr) (u : World) : (Instr.build 71 #[(0, frV x), (1, frV y)]).run Tryz.prog u = .ok (newsVF x y) u := by kernel_rfl
end Go.Proofs.YthnadgbloamlaaaGreat

/- Contract of joseph's Update, of fractions (layer 9): what goes together. Written by genJo.py. -/
namespace Go.Proofs.YthnadgbloamlaaaGreat
open Go.RowKit
set_option linter.unusedSimpArgs false
set_option linter.unusedVariables false

set_option maxRecDepth 100000 in
set_option maxHeartbeats 8000000 in
theorem jUpdateF (n N : Nat) (px : Option Addr) (cx : Nat) (x : Nat → Fr) (p : Option Addr) (cap : Nat) (P : Nat → Nat → Fr) (ph : Option Addr) (ch : Nat) (h : Nat → Fr) (r z : Fr) (w : World)
    (hx : Rq 3 cellsF w (.slice px n cx) (linJ n x)) (hP : Mx 3 cellsF w n n p N cap P) (hh : Rq 3 cellsF w (.slice ph n ch) (linJ n h)) (h4 : n ≤ 4) :
    Calls Tryz.prog 32 #[sJ px n cx n n p N cap, .slice ph n ch, frV r, frV z] w fun e w' => ∃ q c p' c', e = .returned (.tuple #[sJ q n c n n p' N c', newsVF (surpJ kdF n x h z) (spreadJ kdF n P h r), .bool true]) ∧ (Rw 3 cellsF w' (.slice q n c) (linJ n (upXJ kdF n x P h r z)) ∧ Mx 3 cellsF w' n n p' N c' (upPJ kdF (fun i j => wholeF (unitI i j)) n P h r) ∧ Fresh w.heap.size (.slice q n c) ∧ Fresh w.heap.size (.slice p' N c')) ∧ Bl w w' := by
  have fm : Tryz.prog.follows .mixedOrders = true := by kernel_rfl
  have egD := enters_of Tryz.func94 (by kernel_rfl) rfl
  have egA := enters_of Tryz.func266 (by kernel_rfl) rfl
  have egS := enters_of Tryz.func274 (by kernel_rfl) rfl
  have egC := enters_of Tryz.func97 (by kernel_rfl) rfl
  have egV := enters_of Tryz.func96 (by kernel_rfl) rfl
  have egR := enters_of Tryz.func98 (by kernel_rfl) rfl
  have egO := enters_of Tryz.func91 (by kernel_rfl) rfl
  have egM := enters_of Tryz.func93 (by kernel_rfl) rfl
  have hfit := fitJ_dim hP.1 hP.2.1 h4
  have hn6 : n ≤ 1000000 := by omega
  have hn1 : 1 ≤ n := hP.1.r1
  obtain ⟨uu, huu⟩ : ∃ uu, uu = appJ kdF n P h := ⟨_, rfl⟩
  obtain ⟨d, hd⟩ : ∃ d, d = dotF (linJ n h) (linJ n uu) := ⟨_, rfl⟩
  obtain ⟨a, hae⟩ : ∃ a, a = addR d r := ⟨_, rfl⟩
  have hspr : a = spreadJ kdF n P h r := by rw [hae, hd, huu]; rfl
  obtain ⟨dx, hdx⟩ : ∃ dx, dx = dotF (linJ n h) (linJ n x) := ⟨_, rfl⟩
  obtain ⟨e9, he9⟩ : ∃ e9, e9 = subR z dx := ⟨_, rfl⟩
  have hsur : e9 = surpJ kdF n x h z := by rw [he9, hdx]; rfl
  obtain ⟨kk, hkk⟩ : ∃ kk, kk = fun i => divR (uu i) a := ⟨_, rfl⟩
  have hgain : kk = gainJ kdF n P h r := by rw [hkk, hspr, huu]; rfl
  obtain ⟨mm, hmm⟩ : ∃ mm, mm = restJ kdF (fun i j => wholeF (unitI i j)) kk h := ⟨_, rfl⟩
  obtain ⟨PP, hPP⟩ : ∃ PP, PP = mirrJ kdF (aroundJ kdF n mm P) (outerJ kdF (fun i => mulR (kk i) r) kk) := ⟨_, rfl⟩
  have hupP : upPJ kdF (fun i j => wholeF (unitI i j)) n P h r = PP := by rw [hPP, hmm, hgain]; rfl
  have HUX := hideP (show upXJ kdF n x P h r z = fun i => addR (x i) (mulR (kk i) e9) by rw [hgain, hsur]; rfl)
  rw [← hspr, ← hsur, hupP]
  have HKK := hideP (show linJ n kk = linJ n (fun i => divR (uu i) a) by rw [hkk])
  have HAE := hideP (show True from trivial)
  have HPP := hideP hPP
  have HMM := hideP hmm
  have HE9 := hideP he9
  have HDX := hideP hdx
  have HDD := hideP hd
  have HADD := hideP hae
  have HUU := hideP huu
  clear hae hspr he9 hsur hgain hmm hPP hupP hdx hd hkk huu
  obtain ⟨W, hW⟩ : ∃ W, W = ((((w.alloc (.cells #[.slice px n cx, .int .i64 n, .int .i64 n, .slice p N cap] 66)).alloc (.cells #[.int .i64 r.n, .int .i64 r.d, .bool r.bad] 64)).alloc (.cells #[.int .i64 z.n, .int .i64 z.d, .bool z.bad] 64)).alloc (.cells #[.slice none 0 0, .int .i64 0, .int .i64 0, .slice none 0 0] 66)).alloc (.cells #[.int .i64 0, .int .i64 0, .bool false, .int .i64 0, .int .i64 0, .bool false] 71) := ⟨_, rfl⟩
  have b0 : Bl w W := by rw [hW]; exact (((((Bl.refl _).alloc _).alloc _).alloc _).alloc _).alloc _
  have s0 : SBox W w.heap.size px n cx n n p N cap := by rw [hW]; exact (SBox.new w _ _ _ _ _ _ _ _ _).later (((((Bl.refl _).alloc _).alloc _).alloc _).alloc _)
  have r0 : FBox W (w.heap.size + 1) r := by rw [hW]; have := FBox.new (w.alloc (.cells #[.slice px n cx, .int .i64 n, .int .i64 n, .slice p N cap] 66)) r 64; rw [World.size_alloc] at this; exact this.later ((((Bl.refl _).alloc _).alloc _).alloc _)
  have z0 : FBox W (w.heap.size + 1 + 1) z := by rw [hW]; have := FBox.new ((w.alloc (.cells #[.slice px n cx, .int .i64 n, .int .i64 n, .slice p N cap] 66)).alloc (.cells #[.int .i64 r.n, .int .i64 r.d, .bool r.bad] 64)) z 64; rw [World.size_alloc, World.size_alloc] at this; exact this.later (((Bl.refl _).alloc _).alloc _)
  have sz0 : SBox W (w.heap.size + 1 + 1 + 1) none 0 0 0 0 none 0 0 := by rw [hW]; have := SBox.new (((w.alloc (.cells #[.slice px n cx, .int .i64 n, .int .i64 n, .slice p N cap] 66)).alloc (.cells #[.int .i64 r.n, .int .i64 r.d, .bool r.bad] 64)).alloc (.cells #[.int .i64 z.n, .int .i64 z.d, .bool z.bad] 64)) none 0 0 0 0 none 0 0 66; rw [World.size_alloc, World.size_alloc, World.size_alloc] at this; exact this.later ((Bl.refl _).alloc _)
  have nz0 : NBoxF W (w.heap.size + 1 + 1 + 1 + 1) zeroR zeroR := by rw [hW]; have := NBoxF.new ((((w.alloc (.cells #[.slice px n cx, .int .i64 n, .int .i64 n, .slice p N cap] 66)).alloc (.cells #[.int .i64 r.n, .int .i64 r.d, .bool r.bad] 64)).alloc (.cells #[.int .i64 z.n, .int .i64 z.d, .bool z.bad] 64)).alloc (.cells #[.slice none 0 0, .int .i64 0, .int .i64 0, .slice none 0 0] 66)) zeroR zeroR 71; rw [World.size_alloc, World.size_alloc, World.size_alloc, World.size_alloc] at this; exact this
  have hs : W.heap.size = w.heap.size + 1 + 1 + 1 + 1 + 1 := by rw [hW]; simp
  have HX := hideP hx
  have HD := hideP hP.1
  have HN := hideP hP.2.1
  have HP := hideP hP
  have HH := hideP hh
  have HW := hideP hW
  clear hW hx hP hh
  go_enter Tryz.func32, Tryz.ntmps32
  go_wp2_with fail
  rw [← HW.out]
  refine (jRightF _ _ _ _ _ _ _ _ _).mono ?_
  rintro e w1 ⟨rfl, h1⟩
  rw [hfit]
  obtain ⟨d0, d1, d2, d3, _, _, _, _, _⟩ := s0.later h1
  go_wp2_with fail
  refine (mApplyF' n n p N cap P ph ch (linJ n h) w1 (HP.out.later (b0.trans h1)) (HH.out.later (b0.trans h1)) (linJ_len _ _)).mono ?_
  rintro e w3 ⟨pu, cu, rfl, hRu, _, h3⟩
  have HU := hideP (show Rw 3 cellsF w3 (.slice pu n cu) (linJ n uu) from by rw [HUU.out]; exact hRu)
  have b3 : Bl W w3 := h1.trans h3
  have B3 : Bl w w3 := b0.trans b3
  have kr := r0.later b3
  have hs3 : w.heap.size + 1 + 1 + 1 + 1 + 1 ≤ w3.heap.size := by have := b3.size; omega
  have DOT := hideP (fun u (hu : Bl w3 u) => by have := vDotF (.slice ph n ch) (.slice pu n cu) (linJ n h) (linJ n uu) u (HH.out.later (B3.trans hu)) (HU.out.later hu).q (by rw [linJ_len]; exact hn6) (by rw [linJ_len]; exact hn6); rw [← HDD.out] at this; exact this)
  have ADD := hideP (fun u => by have := radd_any d r u; rw [← HADD.out] at this; exact this)
  clear d0 d1 d2 d3 hRu
  go_wp2_with fail
  refine (wpIn_wide (n := 8)).1 (region_q fm [some 39, some 40, some 41, some 42, some 43, some 44, some 13, none] (fun _ => false) 7 (by kernel_rfl) (by rfl)
      (fun j v u => match j with | 0 => v = .slice ph n ch | 1 => v = .slice pu n cu | 2 => v = frV d | 3 => v = .iface 64 (frV d) | 4 => v = frV r | 5 => v = frV a | 6 => ∃ bb, v = .pointer (some ⟨bb, 0, none⟩) ∧ w3.heap.size ≤ bb ∧ FBox u bb zeroR | _ => False)
      (by
        intro j v u u' hb h
        split at h <;> first | exact h | (obtain ⟨bb, e, h1, h2⟩ := h; exact ⟨bb, e, h1, h2.later hb⟩)) (fun vs u0 u => ∃ bb, vs 6 = .pointer (some ⟨bb, 0, none⟩) ∧ w3.heap.size ≤ bb ∧ FBox u bb a ∧ Bl w3 u) ?step ?still ?store ?fin)
  case step =>
    intro j o t act u ho hdt hpu hsz hu hfr hin
    have hj : j < 8 := (Array.getElem?_eq_some_iff.1 ho).1
    obtain ⟨c0, c1, c2, f0, f1, f2, ltr⟩ := kr.later hu
    rcases (by omega : j = 0 ∨ j = 1 ∨ j = 2 ∨ j = 3 ∨ j = 4 ∨ j = 5 ∨ j = 6 ∨ j = 7) with rfl | rfl | rfl | rfl | rfl | rfl | rfl | rfl
    · simp only [List.getElem?_toArray, List.getElem?_cons_zero, List.getElem?_cons_succ, Option.some.injEq] at ho
      subst ho
      obtain rfl := Option.some.inj hdt
      have i1 : act.eval (.tmp (1 : Nat)) = .slice ph n ch := hfr 1 (by decide)
      exact plain_wp (by intro c h; cases h) (fun _ _ => trivial) (by simp only [execOp, i1, evalC, evalF, evalG]; simp [go_sem]) ⟨_, rfl, rfl, Bl.refl _⟩
    · simp only [List.getElem?_toArray, List.getElem?_cons_zero, List.getElem?_cons_succ, Option.some.injEq] at ho
      subst ho
      obtain rfl := Option.some.inj hdt
      have i11 : act.eval (.tmp (11 : Nat)) = .slice pu n cu := hfr 11 (by decide)
      exact plain_wp (by intro c h; cases h) (fun _ _ => trivial) (by simp only [execOp, i11, evalC, evalF, evalG]; simp [go_sem]) ⟨_, rfl, rfl, Bl.refl _⟩
    · simp only [List.getElem?_toArray, List.getElem?_cons_zero, List.getElem?_cons_succ, Option.some.injEq] at ho
      subst ho
      obtain rfl := Option.some.inj hdt
      have i39 : (act.eval (.tmp (39 : Nat))) = .slice ph n ch := hin ⟨0, .data⟩ (by simp) rfl 39 rfl
      have i40 : (act.eval (.tmp (40 : Nat))) = .slice pu n cu := hin ⟨1, .data⟩ (by simp) rfl 40 rfl
      refine enter_wp 94 #[.slice ph n ch, .slice pu n cu] (by intro c h; cases h) (fun _ _ => trivial) (by simp only [execOp, evalC, evalF, evalG, resolve, i39, i40, List.map_toArray, List.map_cons, List.map_nil]; simp [invoke, egD, Result.andThen, go_sem]) (by intro h; cases h) (callsIn_wide.2 (DOT.out u hu)) ?_
      rintro e w' ⟨rfl, hb⟩
      exact ⟨_, rfl, _, rfl, rfl, hb⟩
    · simp only [List.getElem?_toArray, List.getElem?_cons_zero, List.getElem?_cons_succ, Option.some.injEq] at ho
      subst ho
      obtain rfl := Option.some.inj hdt
      have i41 : (act.eval (.tmp (41 : Nat))) = frV d := hin ⟨2, .data⟩ (by simp) rfl 41 rfl
      exact plain_wp (by intro c h; cases h) (fun _ _ => trivial) (by simp only [execOp, i41, evalC, evalF, evalG]; simp [go_sem, c0, c1, c2]) ⟨_, rfl, rfl, Bl.refl _⟩
    · simp only [List.getElem?_toArray, List.getElem?_cons_zero, List.getElem?_cons_succ, Option.some.injEq] at ho
      subst ho
      obtain rfl := Option.some.inj hdt
      have i6 : act.eval (.tmp (6 : Nat)) = .pointer (some ⟨w.heap.size + 1, 0, none⟩) := hfr 6 (by decide)
      exact plain_wp (by intro c h; cases h) (fun _ _ => trivial) (by simp only [execOp, i6, evalC, evalF, evalG]; simp [go_sem, c0, c1, c2]) ⟨_, rfl, rfl, Bl.refl _⟩
    · simp only [List.getElem?_toArray, List.getElem?_cons_zero, List.getElem?_cons_succ, Option.some.injEq] at ho
      subst ho
      obtain rfl := Option.some.inj hdt
      have i42 : (act.eval (.tmp (42 : Nat))) = .iface 64 (frV d) := hin ⟨3, .data⟩ (by simp) rfl 42 rfl
      have i43 : (act.eval (.tmp (43 : Nat))) = frV r := hin ⟨4, .data⟩ (by simp) rfl 43 rfl
      have iv := Tryz.mAddF
      refine enter_wp 266 #[frV d, frV r] (by intro c h; cases h) (fun _ _ => trivial) (by simp only [execOp, evalC, evalF, evalG, resolve, i42, i43, List.map_toArray, List.map_cons, List.map_nil]; simp [invoke, iv, egA, Result.andThen, go_sem]) (by intro h; cases h) (callsIn_wide.2 (ADD.out u)) ?_
      rintro e w' ⟨rfl, hb⟩
      exact ⟨_, rfl, _, rfl, rfl, hb⟩
    · simp only [List.getElem?_toArray, List.getElem?_cons_zero, List.getElem?_cons_succ, Option.some.injEq] at ho
      subst ho
      obtain rfl := Option.some.inj hdt
      exact plain_wp (by intro c h; cases h) (fun _ _ => trivial) (w' := u.alloc (.cells #[.int .i64 0, .int .i64 0, .bool false] 64)) (v := .pointer (some ⟨u.heap.size, 0, none⟩)) (by simp only [execOp]; simp [go_sem]) ⟨_, rfl, ⟨u.heap.size, rfl, hu.size, FBox.new u zeroR _⟩, (Bl.refl _).alloc _⟩
    · simp only [List.getElem?_toArray, List.getElem?_cons_zero, List.getElem?_cons_succ, Option.some.injEq] at ho
      subst ho
      cases hdt
  case still =>
    intro j o t act u0 u ho hdt hpu
    cases hpu
  case store =>
    intro o act u vs ho hsz hu hfr hin
    simp only [List.getElem?_toArray, List.getElem?_cons_zero, List.getElem?_cons_succ, Option.some.injEq] at ho
    subst ho
    obtain ⟨i13, k13⟩ : act.eval (.tmp (13 : Nat)) = vs 6 ∧ (∃ bb, (vs 6) = .pointer (some ⟨bb, 0, none⟩) ∧ w3.heap.size ≤ bb ∧ FBox u bb zeroR) := hin 6 13 rfl rfl
    obtain ⟨i44, k44⟩ : act.eval (.tmp (44 : Nat)) = vs 5 ∧ ((vs 5) = frV a) := hin 5 44 rfl rfl
    obtain ⟨bb, e1, hbb, bx⟩ := k13
    rw [e1] at i13
    rw [k44] at i44
    obtain ⟨c0, c1, c2, f0, f1, f2, ltb⟩ := id bx
    exact skip_wp (by intro c h; cases h) (fun _ _ => trivial) (by simp only [execOp, i13, i44]; simp [go_sem, c0, c1, c2, f0, f1, f2]) ⟨rfl, bb, e1, hbb, bx.fill a, Bl.set3 hu hbb _ _ _⟩
  case fin =>
    intro vs vb u0 u hu hin hps
    have a0 := hin 0 39 rfl
    have a1 := hin 1 40 rfl
    have a2 := hin 2 41 rfl
    have a3 := hin 3 42 rfl
    have a4 := hin 4 43 rfl
    have a5 := hin 5 44 rfl
    have a6 := hin 6 13 rfl
    simp only [putL, Act.put, List.setIfInBounds_toArray, List.set_cons_zero, List.set_cons_succ, Nat.zero_add, Nat.reduceAdd, Nat.reduceBEq, Bool.or_false, Bool.or_true, Bool.false_or, Bool.true_or, Bool.false_eq_true, if_false, if_true, reduceIte, Nat.reduceEqDiff, beq_self_eq_true, Bool.or_self] at a0 a1 a2 a3 a4 a5 a6 ⊢
    rw [if_pos (by decide)] at hps
    simp only [a0, a1, a2, a3, a4, a5]
    obtain ⟨b13, e13, hb13, ka, hbu⟩ := hps
    simp only [e13]
    obtain ⟨w4, rfl⟩ : ∃ w4, w4 = u := ⟨_, rfl⟩
    clear a2 a3 a5 a6 hu hin
    have B4 := B3.trans hbu
    obtain ⟨c0, c1, c2, f0, f1, f2, lta⟩ := id ka
    have SH := hideP (jSharesF n pu cu uu a w4 (HU.out.later hbu) hn6)
    go_wp2_with fail
    refine SH.out.mono ?_
    rintro e w5 ⟨pk, ck, rfl, ⟨hRk, _⟩, h5⟩
    have HK5 := hideP (show Rw 3 cellsF w5 (.slice pk n ck) (linJ n kk) from by rw [HKK.out]; exact hRk)
    have B5 := B4.trans h5
    have b35 : Bl w3 w5 := hbu.trans h5
    have kz := z0.later (b3.trans b35)
    have ks := s0.later (b3.trans b35)
    have hs5 := b35.size
    have ka5 := ka.later h5
    have DOX := hideP (fun u (hu : Bl w5 u) => by have := vDotF (.slice ph n ch) (.slice px n cx) (linJ n h) (linJ n x) u (HH.out.later (B5.trans hu)) (HX.out.later (B5.trans hu)) (by rw [linJ_len]; exact hn6) (by rw [linJ_len]; exact hn6); rw [← HDX.out] at this; exact this)
    have SUB := hideP (fun u => by have := rsub_any z dx u; rw [← HE9.out] at this; exact this)
    clear c0 c1 c2 f0 f1 f2 lta hRk SH DOT ADD kr
    go_wp2_with fail
    refine (wpIn_wide (n := 8)).1 (region_q fm [some 48, some 49, some 50, some 51, some 52, some 53, some 54, some 15, none] (fun _ => false) 8 (by kernel_rfl) (by rfl)
          (fun j v u => match j with | 0 => v = frV z | 1 => v = .iface 64 (frV z) | 2 => v = .slice ph n ch | 3 => v = .pointer (some ⟨w.heap.size, 0, none⟩) | 4 => v = .slice px n cx | 5 => v = frV dx | 6 => v = frV e9 | 7 => ∃ bb, v = .pointer (some ⟨bb, 0, none⟩) ∧ w5.heap.size ≤ bb ∧ FBox u bb zeroR | _ => False)
          (by
            intro j v u u' hb h
            split at h <;> first | exact h | (obtain ⟨bb, e, h1, h2⟩ := h; exact ⟨bb, e, h1, h2.later hb⟩)) (fun vs u0 u => ∃ bb, vs 7 = .pointer (some ⟨bb, 0, none⟩) ∧ w5.heap.size ≤ bb ∧ FBox u bb e9 ∧ Bl w5 u) ?step ?still ?store ?fin)
    case step =>
      intro j o t act u ho hdt hpu hsz hu hfr hin
      have hj : j < 9 := (Array.getElem?_eq_some_iff.1 ho).1
      obtain ⟨c0, c1, c2, f0, f1, f2, ltr⟩ := kz.later hu
      obtain ⟨y0, y1, y2, y3, _, _, _, _, _⟩ := ks.later hu
      rcases (by omega : j = 0 ∨ j = 1 ∨ j = 2 ∨ j = 3 ∨ j = 4 ∨ j = 5 ∨ j = 6 ∨ j = 7 ∨ j = 8) with rfl | rfl | rfl | rfl | rfl | rfl | rfl | rfl | rfl
      · simp only [List.getElem?_toArray, List.getElem?_cons_zero, List.getElem?_cons_succ, Option.some.injEq] at ho
        subst ho
        obtain rfl := Option.some.inj hdt
        have i7 : act.eval (.tmp (7 : Nat)) = .pointer (some ⟨w.heap.size + 1 + 1, 0, none⟩) := hfr 7 (by decide)
        exact plain_wp (by intro c h; cases h) (fun _ _ => trivial) (by simp only [execOp, i7, evalC, evalF, evalG]; simp [go_sem, c0, c1, c2]) ⟨_, rfl, rfl, Bl.refl _⟩
      · simp only [List.getElem?_toArray, List.getElem?_cons_zero, List.getElem?_cons_succ, Option.some.injEq] at ho
        subst ho
        obtain rfl := Option.some.inj hdt
        have i48 : (act.eval (.tmp (48 : Nat))) = frV z := hin ⟨0, .data⟩ (by simp) rfl 48 rfl
        exact plain_wp (by intro c h; cases h) (fun _ _ => trivial) (by simp only [execOp, i48, evalC, evalF, evalG]; simp [go_sem, c0, c1, c2]) ⟨_, rfl, rfl, Bl.refl _⟩
      · simp only [List.getElem?_toArray, List.getElem?_cons_zero, List.getElem?_cons_succ, Option.some.injEq] at ho
        subst ho
        obtain rfl := Option.some.inj hdt
        have i1 : act.eval (.tmp (1 : Nat)) = .slice ph n ch := hfr 1 (by decide)
        exact plain_wp (by intro c h; cases h) (fun _ _ => trivial) (by simp only [execOp, i1, evalC, evalF, evalG]; simp [go_sem]) ⟨_, rfl, rfl, Bl.refl _⟩
      · simp only [List.getElem?_toArray, List.getElem?_cons_zero, List.getElem?_cons_succ, Option.some.injEq] at ho
        subst ho
        obtain rfl := Option.some.inj hdt
        have i4 : act.eval (.tmp (4 : Nat)) = .pointer (some ⟨w.heap.size, 0, none⟩) := hfr 4 (by decide)
        exact plain_wp (by intro c h; cases h) (fun _ _ => trivial) (by simp only [execOp, i4, evalC, evalF, evalG]; simp [go_sem, y0, y1, y2, y3]) ⟨_, rfl, rfl, Bl.refl _⟩
      · simp only [List.getElem?_toArray, List.getElem?_cons_zero, List.getElem?_cons_succ, Option.some.injEq] at ho
        subst ho
        obtain rfl := Option.some.inj hdt
        have i51 : (act.eval (.tmp (51 : Nat))) = .pointer (some ⟨w.heap.size, 0, none⟩) := hin ⟨3, .data⟩ (by simp) rfl 51 rfl
        exact plain_wp (by intro c h; cases h) (fun _ _ => trivial) (by simp only [execOp, i51, evalC, evalF, evalG]; simp [go_sem, y0, y1, y2, y3]) ⟨_, rfl, rfl, Bl.refl _⟩
      · simp only [List.getElem?_toArray, List.getElem?_cons_zero, List.getElem?_cons_succ, Option.some.injEq] at ho
        subst ho
        obtain rfl := Option.some.inj hdt
        have i50 : (act.eval (.tmp (50 : Nat))) = .slice ph n ch := hin ⟨2, .data⟩ (by simp) rfl 50 rfl
        have i52 : (act.eval (.tmp (52 : Nat))) = .slice px n cx := hin ⟨4, .data⟩ (by simp) rfl 52 rfl
        refine enter_wp 94 #[.slice ph n ch, .slice px n cx] (by intro c h; cases h) (fun _ _ => trivial) (by simp only [execOp, evalC, evalF, evalG, resolve, i50, i52, List.map_toArray, List.map_cons, List.map_nil]; simp [invoke, egD, Result.andThen, go_sem]) (by intro h; cases h) (callsIn_wide.2 (DOX.out u hu)) ?_
        rintro e w' ⟨rfl, hb⟩
        exact ⟨_, rfl, _, rfl, rfl, hb⟩
      · simp only [List.getElem?_toArray, List.getElem?_cons_zero, List.getElem?_cons_succ, Option.some.injEq] at ho
        subst ho
        obtain rfl := Option.some.inj hdt
        have i49 : (act.eval (.tmp (49 : Nat))) = .iface 64 (frV z) := hin ⟨1, .data⟩ (by simp) rfl 49 rfl
        have i53 : (act.eval (.tmp (53 : Nat))) = frV dx := hin ⟨5, .data⟩ (by simp) rfl 53 rfl
        have iv := Tryz.mSubF
        refine enter_wp 274 #[frV z, frV dx] (by intro c h; cases h) (fun _ _ => trivial) (by simp only [execOp, evalC, evalF, evalG, resolve, i49, i53, List.map_toArray, List.map_cons, List.map_nil]; simp [invoke, iv, egS, Result.andThen, go_sem]) (by intro h; cases h) (callsIn_wide.2 (SUB.out u)) ?_
        rintro e w' ⟨rfl, hb⟩
        exact ⟨_, rfl, _, rfl, rfl, hb⟩
      · simp only [List.getElem?_toArray, List.getElem?_cons_zero, List.getElem?_cons_succ, Option.some.injEq] at ho
        subst ho
        obtain rfl := Option.some.inj hdt
        exact plain_wp (by intro c h; cases h) (fun _ _ => trivial) (w' := u.alloc (.cells #[.int .i64 0, .int .i64 0, .bool false] 64)) (v := .pointer (some ⟨u.heap.size, 0, none⟩)) (by simp only [execOp]; simp [go_sem]) ⟨_, rfl, ⟨u.heap.size, rfl, hu.size, FBox.new u zeroR _⟩, (Bl.refl _).alloc _⟩
      · simp only [List.getElem?_toArray, List.getElem?_cons_zero, List.getElem?_cons_succ, Option.some.injEq] at ho
        subst ho
        cases hdt
    case still =>
      intro j o t act u0 u ho hdt hpu
      cases hpu
    case store =>
      intro o act u vs ho hsz hu hfr hin
      simp only [List.getElem?_toArray, List.getElem?_cons_zero, List.getElem?_cons_succ, Option.some.injEq] at ho
      subst ho
      obtain ⟨i15, k15⟩ : act.eval (.tmp (15 : Nat)) = vs 7 ∧ (∃ bb, (vs 7) = .pointer (some ⟨bb, 0, none⟩) ∧ w5.heap.size ≤ bb ∧ FBox u bb zeroR) := hin 7 15 rfl rfl
      obtain ⟨i54, k54⟩ : act.eval (.tmp (54 : Nat)) = vs 6 ∧ ((vs 6) = frV e9) := hin 6 54 rfl rfl
      obtain ⟨bb, e1, hbb, bx⟩ := k15
      rw [e1] at i15
      rw [k54] at i54
      obtain ⟨c0, c1, c2, f0, f1, f2, ltb⟩ := id bx
      exact skip_wp (by intro c h; cases h) (fun _ _ => trivial) (by simp only [execOp, i15, i54]; simp [go_sem, c0, c1, c2, f0, f1, f2]) ⟨rfl, bb, e1, hbb, bx.fill e9, Bl.set3 hu hbb _ _ _⟩
    case fin =>
      intro vs vb u0 u hu hin hps
      have a0 := hin 0 48 rfl
      have a1 := hin 1 49 rfl
      have a2 := hin 2 50 rfl
      have a3 := hin 3 51 rfl
      have a4 := hin 4 52 rfl
      have a5 := hin 5 53 rfl
      have a6 := hin 6 54 rfl
      have a7 := hin 7 15 rfl
      simp only [putL, Act.put, List.setIfInBounds_toArray, List.set_cons_zero, List.set_cons_succ, Nat.zero_add, Nat.reduceAdd, Nat.reduceBEq, Bool.or_false, Bool.or_true, Bool.false_or, Bool.true_or, Bool.false_eq_true, if_false, if_true, reduceIte, Nat.reduceEqDiff, beq_self_eq_true, Bool.or_self] at a0 a1 a2 a3 a4 a5 a6 a7 ⊢
      rw [if_pos (by decide)] at hps
      simp only [a0, a1, a2, a3, a4, a5, a6]
      obtain ⟨b15, e15, hb15, ke, hbu⟩ := hps
      simp only [e15]
      obtain ⟨w6, rfl⟩ : ∃ w6, w6 = u := ⟨_, rfl⟩
      clear a5 a6 a7 hu hin a1
      have B6 := B5.trans hbu
      have ks6 := ks.later hbu
      have HK := hideP (HK5.out.later hbu)
      have hs6 := hbu.size
      have ka6 := ka5.later hbu
      have b36 := b35.trans hbu
      clear DOX SUB kz ks
      go_wp2_with fail
      refine (wpIn_wide (n := 8)).1 (region_q fm [some 55, some 56, some 57, some 58, some 59, some 60, some 16] (fun _ => false) 7 (by kernel_rfl) (by rfl)
            (fun j v u => match j with | 0 => v = .pointer (some ⟨w.heap.size, 0, none⟩) | 1 => v = .slice px n cx | 2 => v = .slice pk n ck | 3 => v = frV e9 | 4 => ∃ q c, v = .slice q n c ∧ Rw 3 cellsF u (.slice q n c) (linJ n fun i => mulR (kk i) e9) | 5 => ∃ q c, v = .slice q n c ∧ Rw 3 cellsF u (.slice q n c) (linJ n fun i => addR (x i) (mulR (kk i) e9)) ∧ Fresh w6.heap.size (.slice q n c) | 6 => ∃ q c, v = .slice q n c ∧ Rw 3 cellsF u (.slice q n c) (linJ n fun i => addR (x i) (mulR (kk i) e9)) ∧ Fresh w6.heap.size (.slice q n c) | _ => False)
            (by
              intro j v u u' hb h
              split at h <;> first | exact h | (obtain ⟨q, c, e, h1, h2⟩ := h; exact ⟨q, c, e, h1.later hb, h2⟩) | (obtain ⟨q, c, e, h1⟩ := h; exact ⟨q, c, e, h1.later hb⟩)) (fun vs u0 u => u = u0) ?step ?still ?store ?fin)
      case step =>
        intro j o t act u ho hdt hpu hsz hu hfr hin
        have hj : j < 7 := (Array.getElem?_eq_some_iff.1 ho).1
        obtain ⟨c0, c1, c2, f0, f1, f2, ltr⟩ := ke.later hu
        obtain ⟨y0, y1, y2, y3, _, _, _, _, _⟩ := ks6.later hu
        rcases (by omega : j = 0 ∨ j = 1 ∨ j = 2 ∨ j = 3 ∨ j = 4 ∨ j = 5 ∨ j = 6) with rfl | rfl | rfl | rfl | rfl | rfl | rfl
        · simp only [List.getElem?_toArray, List.getElem?_cons_zero, List.getElem?_cons_succ, Option.some.injEq] at ho
          subst ho
          obtain rfl := Option.some.inj hdt
          have i4 : act.eval (.tmp (4 : Nat)) = .pointer (some ⟨w.heap.size, 0, none⟩) := hfr 4 (by decide)
          exact plain_wp (by intro c h; cases h) (fun _ _ => trivial) (by simp only [execOp, i4, evalC, evalF, evalG]; simp [go_sem, y0, y1, y2, y3]) ⟨_, rfl, rfl, Bl.refl _⟩
        · simp only [List.getElem?_toArray, List.getElem?_cons_zero, List.getElem?_cons_succ, Option.some.injEq] at ho
          subst ho
          obtain rfl := Option.some.inj hdt
          have i55 : (act.eval (.tmp (55 : Nat))) = .pointer (some ⟨w.heap.size, 0, none⟩) := hin ⟨0, .data⟩ (by simp) rfl 55 rfl
          exact plain_wp (by intro c h; cases h) (fun _ _ => trivial) (by simp only [execOp, i55, evalC, evalF, evalG]; simp [go_sem, y0, y1, y2, y3]) ⟨_, rfl, rfl, Bl.refl _⟩
        · simp only [List.getElem?_toArray, List.getElem?_cons_zero, List.getElem?_cons_succ, Option.some.injEq] at ho
          subst ho
          obtain rfl := Option.some.inj hdt
          have i14 : act.eval (.tmp (14 : Nat)) = .slice pk n ck := hfr 14 (by decide)
          exact plain_wp (by intro c h; cases h) (fun _ _ => trivial) (by simp only [execOp, i14, evalC, evalF, evalG]; simp [go_sem]) ⟨_, rfl, rfl, Bl.refl _⟩
        · simp only [List.getElem?_toArray, List.getElem?_cons_zero, List.getElem?_cons_succ, Option.some.injEq] at ho
          subst ho
          obtain rfl := Option.some.inj hdt
          have i15 : act.eval (.tmp (15 : Nat)) = .pointer (some ⟨b15, 0, none⟩) := hfr 15 (by decide)
          exact plain_wp (by intro c h; cases h) (fun _ _ => trivial) (by simp only [execOp, i15, evalC, evalF, evalG]; simp [go_sem, c0, c1, c2]) ⟨_, rfl, rfl, Bl.refl _⟩
        · simp only [List.getElem?_toArray, List.getElem?_cons_zero, List.getElem?_cons_succ, Option.some.injEq] at ho
          subst ho
          obtain rfl := Option.some.inj hdt
          have i57 : (act.eval (.tmp (57 : Nat))) = .slice pk n ck := hin ⟨2, .data⟩ (by simp) rfl 57 rfl
          have i58 : (act.eval (.tmp (58 : Nat))) = frV e9 := hin ⟨3, .data⟩ (by simp) rfl 58 rfl
          refine enter_wp 97 #[.slice pk n ck, frV e9] (by intro c h; cases h) (fun _ _ => trivial) (by simp only [execOp, evalC, evalF, evalG, resolve, i57, i58, List.map_toArray, List.map_cons, List.map_nil]; simp [invoke, egC, Result.andThen, go_sem]) (by intro h; cases h) (callsIn_wide.2 (scale_linF pk n ck kk e9 u (HK.out.later hu) hn6)) ?_
          rintro e w' ⟨q, c, rfl, hR, hb⟩
          exact ⟨_, rfl, _, rfl, ⟨q, c, rfl, hR⟩, hb⟩
        · simp only [List.getElem?_toArray, List.getElem?_cons_zero, List.getElem?_cons_succ, Option.some.injEq] at ho
          subst ho
          obtain rfl := Option.some.inj hdt
          have i56 : (act.eval (.tmp (56 : Nat))) = .slice px n cx := hin ⟨1, .data⟩ (by simp) rfl 56 rfl
          have i59 : ∃ q c, (act.eval (.tmp (59 : Nat))) = .slice q n c ∧ Rw 3 cellsF u (.slice q n c) (linJ n fun i => mulR (kk i) e9) := hin ⟨4, .data⟩ (by simp) rfl 59 rfl
          obtain ⟨q0, c0', e1, hq⟩ := i59
          refine enter_wp 96 #[.slice px n cx, .slice q0 n c0'] (by intro c h; cases h) (fun _ _ => trivial) (by simp only [execOp, evalC, evalF, evalG, resolve, i56, e1, List.map_toArray, List.map_cons, List.map_nil]; simp [invoke, egV, Result.andThen, go_sem]) (by intro h; cases h) (callsIn_wide.2 (add_linF px q0 n cx c0' x _ u (HX.out.later (B6.trans hu)) hq.q hn6)) ?_
          rintro e w' ⟨q, c, rfl, ⟨hR, hF⟩, hb⟩
          exact ⟨_, rfl, _, rfl, ⟨q, c, rfl, hR, fresh_le hF hu.size⟩, hb⟩
        · simp only [List.getElem?_toArray, List.getElem?_cons_zero, List.getElem?_cons_succ, Option.some.injEq] at ho
          subst ho
          obtain rfl := Option.some.inj hdt
          have i60 : ∃ q c, (act.eval (.tmp (60 : Nat))) = .slice q n c ∧ Rw 3 cellsF u (.slice q n c) (linJ n fun i => addR (x i) (mulR (kk i) e9)) ∧ Fresh w6.heap.size (.slice q n c) := hin ⟨5, .data⟩ (by simp) rfl 60 rfl
          obtain ⟨q0, c0', e1, hq⟩ := i60
          exact plain_wp (by intro c h; cases h) (fun _ _ => trivial) (by simp only [execOp, e1, evalC, evalF, evalG]; simp [go_sem]) ⟨_, rfl, ⟨q0, c0', rfl, hq⟩, Bl.refl _⟩
      case still =>
        intro j o t act u0 u ho hdt hpu
        cases hpu
      case store =>
        intro o act u vs ho
        cases ho
      case fin =>
        intro vs vb u0 u hu hin hps
        have a0 := hin 0 55 rfl
        have a1 := hin 1 56 rfl
        have a2 := hin 2 57 rfl
        have a3 := hin 3 58 rfl
        have a4 := hin 4 59 rfl
        have a5 := hin 5 60 rfl
        have a6 := hin 6 16 rfl
        simp only [putL, Act.put, List.setIfInBounds_toArray, List.set_cons_zero, List.set_cons_succ, Nat.zero_add, Nat.reduceAdd, Nat.reduceBEq, Bool.or_false, Bool.or_true, Bool.false_or, Bool.true_or, Bool.false_eq_true, if_false, if_true, reduceIte, Nat.reduceEqDiff, beq_self_eq_true, Bool.or_self] at a0 a1 a2 a3 a4 a5 a6 ⊢
        rw [if_neg (by decide)] at hps
        simp only [a0, a1, a2, a3]
        subst hps
        obtain ⟨px', cx', e6, hRx, hFx⟩ := a6
        simp only [e6]
        obtain ⟨w7, rfl⟩ : ∃ w7, w7 = u := ⟨_, rfl⟩
        have HRX := hideP hRx
        have HFX := hideP hFx
        clear a4 a5 hRx hFx hin
        have h67 : Bl w6 w7 := hu
        have B7 := B6.trans hu
        have ks7 := ks6.later hu
        have ke7 := ke.later hu
        have ka7 := ka6.later hu
        have hs7 := hu.size
        have b37 := b36.trans hu
        have RST := hideP (fun u (hu : Bl w7 u) => by have := jRestF n N pk ck kk ph ch h u ((HK.out.later (h67.trans hu)).q) (HH.out.later (B7.trans hu)) HD.out HN.out; rw [← HMM.out] at this; exact this)
        clear hu ks6
        go_wp2_with fail
        refine (wpIn_wide (n := 8)).1 (region_q fm [some 61, some 62, some 63, some 64, some 65, some 66, some 17, none] (fun _ => false) 7 (by kernel_rfl) (by rfl)
              (fun j v u => match j with | 0 => v = .slice pk n ck | 1 => v = .slice ph n ch | 2 => ∃ q c, v = mV n n q N c ∧ Mx 3 cellsF u n n q N c mm | 3 => v = .pointer (some ⟨w.heap.size, 1, none⟩) | 4 => v = mV n n p N cap | 5 => ∃ q c, v = mV n n q N c ∧ Mx 3 cellsF u n n q N c (aroundJ kdF n mm P) ∧ Fresh w7.heap.size (.slice q N c) | 6 => ∃ b, v = .pointer (some ⟨b, 0, none⟩) ∧ w7.heap.size ≤ b ∧ MBox u b 0 0 none 0 0 ∧ NoB u b | _ => False)
              (by
                intro j v u u' hb h
                split at h
                · exact h
                · exact h
                · obtain ⟨q, c, e, h1⟩ := h; exact ⟨q, c, e, Mx.later h1 hb⟩
                · exact h
                · exact h
                · obtain ⟨q, c, e, h1, h2⟩ := h; exact ⟨q, c, e, Mx.later h1 hb, h2⟩
                · obtain ⟨b, e, h1, h2, h3⟩ := h; exact ⟨b, e, h1, h2.later hb, h3.later hb h2.lt⟩
                · exact h) (fun vs u0 u => ∃ b q c, vs 6 = .pointer (some ⟨b, 0, none⟩) ∧ w7.heap.size ≤ b ∧ MBox u b n n q N c ∧ Mx 3 cellsF u n n q N c (aroundJ kdF n mm P) ∧ Fresh w7.heap.size (.slice q N c) ∧ Bl w7 u) ?step ?still ?store ?fin)
        case step =>
          intro j o t act u ho hdt hpu hsz hu hfr hin
          have hj : j < 8 := (Array.getElem?_eq_some_iff.1 ho).1
          obtain ⟨y0, y1, y2, y3, _, _, _, _, _⟩ := ks7.later hu
          rcases (by omega : j = 0 ∨ j = 1 ∨ j = 2 ∨ j = 3 ∨ j = 4 ∨ j = 5 ∨ j = 6 ∨ j = 7) with rfl | rfl | rfl | rfl | rfl | rfl | rfl | rfl
          · simp only [List.getElem?_toArray, List.getElem?_cons_zero, List.getElem?_cons_succ, Option.some.injEq] at ho
            subst ho
            obtain rfl := Option.some.inj hdt
            have i14 : act.eval (.tmp (14 : Nat)) = .slice pk n ck := hfr 14 (by decide)
            exact plain_wp (by intro c h; cases h) (fun _ _ => trivial) (by simp only [execOp, i14, evalC, evalF, evalG]; simp [go_sem]) ⟨_, rfl, rfl, Bl.refl _⟩
          · simp only [List.getElem?_toArray, List.getElem?_cons_zero, List.getElem?_cons_succ, Option.some.injEq] at ho
            subst ho
            obtain rfl := Option.some.inj hdt
            have i1 : act.eval (.tmp (1 : Nat)) = .slice ph n ch := hfr 1 (by decide)
            exact plain_wp (by intro c h; cases h) (fun _ _ => trivial) (by simp only [execOp, i1, evalC, evalF, evalG]; simp [go_sem]) ⟨_, rfl, rfl, Bl.refl _⟩
          · simp only [List.getElem?_toArray, List.getElem?_cons_zero, List.getElem?_cons_succ, Option.some.injEq] at ho
            subst ho
            obtain rfl := Option.some.inj hdt
            have i61 : (act.eval (.tmp (61 : Nat))) = .slice pk n ck := hin ⟨0, .data⟩ (by simp) rfl 61 rfl
            have i62 : (act.eval (.tmp (62 : Nat))) = .slice ph n ch := hin ⟨1, .data⟩ (by simp) rfl 62 rfl
            refine enter_wp 98 #[.slice pk n ck, .slice ph n ch] (by intro c h; cases h) (fun _ _ => trivial) (by simp only [execOp, evalC, evalF, evalG, resolve, i61, i62, List.map_toArray, List.map_cons, List.map_nil]; simp [invoke, egR, Result.andThen, go_sem]) (by intro h; cases h) (callsIn_wide.2 (RST.out u hu)) ?_
            rintro e w' ⟨q, c, rfl, ⟨hM, _⟩, hb⟩
            exact ⟨_, rfl, _, rfl, ⟨q, c, rfl, hM⟩, hb⟩
          · simp only [List.getElem?_toArray, List.getElem?_cons_zero, List.getElem?_cons_succ, Option.some.injEq] at ho
            subst ho
            obtain rfl := Option.some.inj hdt
            have i4 : act.eval (.tmp (4 : Nat)) = .pointer (some ⟨w.heap.size, 0, none⟩) := hfr 4 (by decide)
            exact plain_wp (by intro c h; cases h) (fun _ _ => trivial) (by simp only [execOp, i4, evalC, evalF, evalG]; simp [go_sem, y0, y1, y2, y3]) ⟨_, rfl, rfl, Bl.refl _⟩
          · simp only [List.getElem?_toArray, List.getElem?_cons_zero, List.getElem?_cons_succ, Option.some.injEq] at ho
            subst ho
            obtain rfl := Option.some.inj hdt
            have i64 : (act.eval (.tmp (64 : Nat))) = .pointer (some ⟨w.heap.size, 1, none⟩) := hin ⟨3, .data⟩ (by simp) rfl 64 rfl
            exact plain_wp (by intro c h; cases h) (fun _ _ => trivial) (by simp only [execOp, i64, evalC, evalF, evalG]; simp [go_sem, y0, y1, y2, y3]) ⟨_, rfl, rfl, Bl.refl _⟩
          · simp only [List.getElem?_toArray, List.getElem?_cons_zero, List.getElem?_cons_succ, Option.some.injEq] at ho
            subst ho
            obtain rfl := Option.some.inj hdt
            have i63 : ∃ q c, (act.eval (.tmp (63 : Nat))) = mV n n q N c ∧ Mx 3 cellsF u n n q N c mm := hin ⟨2, .data⟩ (by simp) rfl 63 rfl
            have i65 : (act.eval (.tmp (65 : Nat))) = mV n n p N cap := hin ⟨4, .data⟩ (by simp) rfl 65 rfl
            obtain ⟨q0, c0', e1, hq⟩ := i63
            refine enter_wp 91 #[mV n n q0 N c0', mV n n p N cap] (by intro c h; cases h) (fun _ _ => trivial) (by simp only [execOp, evalC, evalF, evalG, resolve, e1, i65, List.map_toArray, List.map_cons, List.map_nil]; simp [invoke, egO, Result.andThen, go_sem]) (by intro h; cases h) (callsIn_wide.2 (jAroundF n N q0 c0' mm p cap P u hq (HP.out.later (B7.trans hu)))) ?_
            rintro e w' ⟨q, c, rfl, ⟨hM, hF⟩, hb⟩
            exact ⟨_, rfl, _, rfl, ⟨q, c, rfl, hM, fresh_le hF hu.size⟩, hb⟩
          · simp only [List.getElem?_toArray, List.getElem?_cons_zero, List.getElem?_cons_succ, Option.some.injEq] at ho
            subst ho
            obtain rfl := Option.some.inj hdt
            exact plain_wp (by intro c h; cases h) (fun _ _ => trivial) (w' := u.alloc (.cells #[.int .i64 0, .int .i64 0, .slice none 0 0] 60)) (v := .pointer (some ⟨u.heap.size, 0, none⟩)) (by simp only [execOp]; simp [go_sem]) ⟨_, rfl, ⟨u.heap.size, rfl, hu.size, MBox.new u 0 0 none 0 0 _, noB_new u _⟩, (Bl.refl _).alloc _⟩
          · simp only [List.getElem?_toArray, List.getElem?_cons_zero, List.getElem?_cons_succ, Option.some.injEq] at ho
            subst ho
            cases hdt
        case still =>
          intro j o t act u0 u ho hdt hpu
          cases hpu
        case store =>
          intro o act u vs ho hsz hu hfr hin
          simp only [List.getElem?_toArray, List.getElem?_cons_zero, List.getElem?_cons_succ, Option.some.injEq] at ho
          subst ho
          obtain ⟨i17, k17⟩ : act.eval (.tmp (17 : Nat)) = vs 6 ∧ (∃ b, (vs 6) = .pointer (some ⟨b, 0, none⟩) ∧ w7.heap.size ≤ b ∧ MBox u b 0 0 none 0 0 ∧ NoB u b) := hin 6 17 rfl rfl
          obtain ⟨i66, k66⟩ : act.eval (.tmp (66 : Nat)) = vs 5 ∧ (∃ q c, (vs 5) = mV n n q N c ∧ Mx 3 cellsF u n n q N c (aroundJ kdF n mm P) ∧ Fresh w7.heap.size (.slice q N c)) := hin 5 66 rfl rfl
          obtain ⟨b, e1, hb, bx, nb⟩ := k17
          obtain ⟨q0, c0', e2, hq, hf⟩ := k66
          rw [e1] at i17
          rw [e2] at i66
          obtain ⟨d0, d1, d2, g0, g1, g2, ltb⟩ := id bx
          exact skip_wp (by intro c h; cases h) (fun _ _ => trivial) (by simp only [execOp, i17, i66]; simp [go_sem, d0, d1, d2, g0, g1, g2]) ⟨rfl, b, q0, c0', e1, hb, bx.fill _ _ _ _ _, mx_ne7 hq (noB_mx boolF hq nb) _ _ _, hf, Bl.put3 hu hb _ _ _⟩
        case fin =>
          intro vs vb u0 u hu hin hps
          have a0 := hin 0 61 rfl
          have a1 := hin 1 62 rfl
          have a2 := hin 2 63 rfl
          have a3 := hin 3 64 rfl
          have a4 := hin 4 65 rfl
          have a5 := hin 5 66 rfl
          have a6 := hin 6 17 rfl
          simp only [putL, Act.put, List.setIfInBounds_toArray, List.set_cons_zero, List.set_cons_succ, Nat.zero_add, Nat.reduceAdd, Nat.reduceBEq, Bool.or_false, Bool.or_true, Bool.false_or, Bool.true_or, Bool.false_eq_true, if_false, if_true, reduceIte, Nat.reduceEqDiff, beq_self_eq_true, Bool.or_self] at a0 a1 a2 a3 a4 a5 a6 ⊢
          rw [if_pos (by decide)] at hps
          simp only [a0, a1, a3, a4]
          obtain ⟨b17, p8, c8, e6, hb17, k17, hM8, hF8, hbu⟩ := hps
          simp only [e6]
          obtain ⟨wv, rfl⟩ : ∃ wv, wv = u := ⟨_, rfl⟩
          have HM8 := hideP hM8
          have HF8 := hideP hF8
          clear a2 a5 a6 hM8 hF8 hu hin RST
          have bv := b37.trans hbu
          obtain ⟨c0, c1, c2, f0, f1, f2, ltr⟩ := r0.later (b3.trans bv)
          have SC := hideP (scale_linF pk n ck kk r wv (HK.out.later (h67.trans hbu)) hn6)
          go_wp2_with fail
          refine SC.out.mono ?_
          rintro e wa ⟨pr, cr, rfl, hRr, ha⟩
          have HRR := hideP hRr
          clear hRr c0 c1 c2 f0 f1 f2 ltr SC
          have OU := hideP (jOuterF n n N pr cr (fun i => mulR (kk i) r) pk ck kk wa HRR.out.q (HK.out.later (h67.trans (hbu.trans ha))).q HD.out HN.out)
          go_wp2_with fail
          refine OU.out.mono ?_
          rintro e w8 ⟨p9, c9, rfl, ⟨h9x, hF9⟩, h8⟩
          obtain ⟨W9, hW9⟩ : ∃ W9, W9 = w8.alloc (.cells #[.int .i64 n, .int .i64 n, .slice p9 N c9] 60) := ⟨_, rfl⟩
          have b9 : Bl w8 W9 := by rw [hW9]; exact (Bl.refl _).alloc _
          have k18 := MBox.new w8 n n p9 N c9 60
          rw [← hW9] at k18
          have b79 : Bl w7 W9 := hbu.trans (ha.trans (h8.trans b9))
          have B9 := B7.trans b79
          have hs9 := b79.size
          have hsv := hbu.size
          have hsa := (hbu.trans ha).size
          replace k17 := k17.later (ha.trans (h8.trans b9))
          have ke9 := ke7.later b79
          have ka9 := ka7.later b79
          have hlt17 := k17.lt
          have hlt18 := k18.lt
          have hltE := ke9.lt
          have hltA := ka9.lt
          have SZ0 := hideP (sz0.later (b3.trans (b37.trans b79)))
          have NZ0 := hideP (nz0.later (b3.trans (b37.trans b79)))
          have h8lo : w7.heap.size ≤ w8.heap.size := by have := (ha.trans h8).size; omega
          have MIR := hideP (fun u (hu : (TwoJ (w.heap.size + 1 + 1 + 1) (w.heap.size + 1 + 1 + 1 + 1) (fun y => ∃ q c, SBox y (w.heap.size + 1 + 1 + 1) px' n cx' n n q N c ∧ Mx 3 cellsF y n n q N c PP ∧ Fresh W9.heap.size (.slice q N c)) (fun y => NBoxF y (w.heap.size + 1 + 1 + 1 + 1) e9 a)) W9 u) => by
            have := jMirroredF n N p8 c8 (aroundJ kdF n mm P) p9 c9 (outerJ kdF (fun i => mulR (kk i) r) kk) u ((Mx.later HM8.out (ha.trans (h8.trans b9))).but hu.but (fun g hg => by have := HF8.out g hg; show ¬ (_ = _ ∨ _ = _); omega)) ((Mx.later h9x b9).but hu.but (fun g hg => by have := hF9 g hg; show ¬ (_ = _ ∨ _ = _); omega))
            rw [← HPP.out] at this
            exact this)
          have HW9 := hideP hW9
          clear hW9 OU h9x hF9
          go_wp2_with fail
          rw [← HW9.out]
          refine (wpIn_wide (n := 8)).1 (region_r fm (TwoJ (w.heap.size + 1 + 1 + 1) (w.heap.size + 1 + 1 + 1 + 1) (fun y => ∃ q c, SBox y (w.heap.size + 1 + 1 + 1) px' n cx' n n q N c ∧ Mx 3 cellsF y n n q N c PP ∧ Fresh W9.heap.size (.slice q N c)) (fun y => NBoxF y (w.heap.size + 1 + 1 + 1 + 1) e9 a)) [some 72, some 73, some 74, some 75, some 76, some 77, some 78, some 79, none, none, some 10] (by kernel_rfl) (by rfl) (TwoJ.bl ((Bl.refl _).drew) (by omega) (by omega)) (fun h k => TwoJ.trans (fun x y t b e => by obtain ⟨q, c, t1, t2, t3⟩ := t; exact ⟨q, c, t1.heap e b.size, t2.but b (fun g hg => by have := t3 g hg; show ¬ (_ = _ ∨ _ = _); omega), t3⟩) (fun x y t b e => t.heap e b.size) h k)
                (fun j v u => match j with | 0 => v = .slice px' n cx' | 1 => v = mV n n p8 N c8 | 2 => v = mV n n p9 N c9 | 3 => ∃ q c, v = mV n n q N c ∧ Mx 3 cellsF u n n q N c PP ∧ Fresh W9.heap.size (.slice q N c) | 4 => ∃ q c, v = sJ px' n cx' n n q N c ∧ Mx 3 cellsF u n n q N c PP ∧ Fresh W9.heap.size (.slice q N c) | 5 => v = frV e9 | 6 => v = frV a | 7 => v = newsVF e9 a | 8 => ∃ q c, SBox u (w.heap.size + 1 + 1 + 1) px' n cx' n n q N c ∧ Mx 3 cellsF u n n q N c PP ∧ Fresh W9.heap.size (.slice q N c) | 9 => NBoxF u (w.heap.size + 1 + 1 + 1 + 1) e9 a | 10 => v = .bool true | _ => False)
                (by
                  intro j v u u' hb hr h
                  split at h
                  · exact h
                  · exact h
                  · exact h
                  · obtain ⟨q, c, e, h1, h2⟩ := h; exact ⟨q, c, e, Mx.but h1 hr.but (fun g hg => by have := h2 g hg; show ¬ (_ = _ ∨ _ = _); omega), h2⟩
                  · obtain ⟨q, c, e, h1, h2⟩ := h; exact ⟨q, c, e, Mx.but h1 hr.but (fun g hg => by have := h2 g hg; show ¬ (_ = _ ∨ _ = _); omega), h2⟩
                  · exact h
                  · exact h
                  · exact h
                  · rcases hr.g8 with e | t
                    · obtain ⟨q, c, h0, h1, h2⟩ := h
                      exact ⟨q, c, h0.heap e hr.but.size, Mx.but h1 hr.but (fun g hg => by have := h2 g hg; show ¬ (_ = _ ∨ _ = _); omega), h2⟩
                    · exact t
                  · rcases hr.l9 with e | t
                    · exact h.heap e hr.but.size
                    · exact t
                  · exact h
                  · exact h) ?step ?fin)
          case step =>
            intro j o act u ho hsz hu hfr hin hnon
            have hj : j < 11 := (Array.getElem?_eq_some_iff.1 ho).1
            obtain ⟨x0, x1, x2, _, _, _, _⟩ := k17.but hu.but (by show ¬ (_ = _ ∨ _ = _); omega)
            obtain ⟨y0, y1, y2, _, _, _, _⟩ := k18.but hu.but (by show ¬ (_ = _ ∨ _ = _); omega)
            have cE0 : u.cell? ⟨b15, 0, none⟩ = some (.int .i64 e9.n) := (hu.but.cell _ _ (by omega) (by show ¬ (_ = _ ∨ _ = _); omega)).trans ke9.c0
            have cE1 : u.cell? ⟨b15, 1, none⟩ = some (.int .i64 e9.d) := (hu.but.cell _ _ (by omega) (by show ¬ (_ = _ ∨ _ = _); omega)).trans ke9.c1
            have cE2 : u.cell? ⟨b15, 2, none⟩ = some (.bool e9.bad) := (hu.but.cell _ _ (by omega) (by show ¬ (_ = _ ∨ _ = _); omega)).trans ke9.c2
            have cA0 : u.cell? ⟨b13, 0, none⟩ = some (.int .i64 a.n) := (hu.but.cell _ _ (by omega) (by show ¬ (_ = _ ∨ _ = _); omega)).trans ka9.c0
            have cA1 : u.cell? ⟨b13, 1, none⟩ = some (.int .i64 a.d) := (hu.but.cell _ _ (by omega) (by show ¬ (_ = _ ∨ _ = _); omega)).trans ka9.c1
            have cA2 : u.cell? ⟨b13, 2, none⟩ = some (.bool a.bad) := (hu.but.cell _ _ (by omega) (by show ¬ (_ = _ ∨ _ = _); omega)).trans ka9.c2
            rcases (by omega : j = 0 ∨ j = 1 ∨ j = 2 ∨ j = 3 ∨ j = 4 ∨ j = 5 ∨ j = 6 ∨ j = 7 ∨ j = 8 ∨ j = 9 ∨ j = 10) with rfl | rfl | rfl | rfl | rfl | rfl | rfl | rfl | rfl | rfl | rfl
            · simp only [List.getElem?_toArray, List.getElem?_cons_zero, List.getElem?_cons_succ, Option.some.injEq] at ho
              subst ho
              have i16 : act.eval (.tmp (16 : Nat)) = .slice px' n cx' := hfr 16 (by decide)
              exact plain_wp (by intro c h; cases h) (fun _ _ => trivial) (by simp only [execOp, i16, evalC, evalF, evalG]; simp [go_sem]) ⟨_, rfl, rfl, TwoJ.bl (Bl.refl _) (by have := hu.but.size; omega) (by have := hu.but.size; omega)⟩
            · simp only [List.getElem?_toArray, List.getElem?_cons_zero, List.getElem?_cons_succ, Option.some.injEq] at ho
              subst ho
              have i17 : act.eval (.tmp (17 : Nat)) = .pointer (some ⟨b17, 0, none⟩) := hfr 17 (by decide)
              exact plain_wp (by intro c h; cases h) (fun _ _ => trivial) (by simp only [execOp, i17, evalC, evalF, evalG]; simp [go_sem, x0, x1, x2]) ⟨_, rfl, rfl, TwoJ.bl (Bl.refl _) (by have := hu.but.size; omega) (by have := hu.but.size; omega)⟩
            · simp only [List.getElem?_toArray, List.getElem?_cons_zero, List.getElem?_cons_succ, Option.some.injEq] at ho
              subst ho
              have i18 : act.eval (.tmp (18 : Nat)) = .pointer (some ⟨w8.heap.size, 0, none⟩) := hfr 18 (by decide)
              exact plain_wp (by intro c h; cases h) (fun _ _ => trivial) (by simp only [execOp, i18, evalC, evalF, evalG]; simp [go_sem, y0, y1, y2]) ⟨_, rfl, rfl, TwoJ.bl (Bl.refl _) (by have := hu.but.size; omega) (by have := hu.but.size; omega)⟩
            · simp only [List.getElem?_toArray, List.getElem?_cons_zero, List.getElem?_cons_succ, Option.some.injEq] at ho
              subst ho
              have i73 : (act.eval (.tmp (73 : Nat))) = mV n n p8 N c8 := hin ⟨1, .data⟩ (by simp) rfl 73 rfl
              have i74 : (act.eval (.tmp (74 : Nat))) = mV n n p9 N c9 := hin ⟨2, .data⟩ (by simp) rfl 74 rfl
              refine enter_wp 93 #[mV n n p8 N c8, mV n n p9 N c9] (by intro c h; cases h) (fun _ _ => trivial) (by simp only [execOp, evalC, evalF, evalG, resolve, i73, i74, List.map_toArray, List.map_cons, List.map_nil]; simp [invoke, egM, Result.andThen, go_sem]) (by intro h; cases h) (callsIn_wide.2 (MIR.out u hu)) ?_
              rintro e w' ⟨q, c, rfl, ⟨hM, hF⟩, hb⟩
              exact ⟨_, rfl, _, rfl, ⟨q, c, rfl, hM, fresh_le hF hu.but.size⟩, TwoJ.bl hb (by have := hu.but.size; omega) (by have := hu.but.size; omega)⟩
            · simp only [List.getElem?_toArray, List.getElem?_cons_zero, List.getElem?_cons_succ, Option.some.injEq] at ho
              subst ho
              have i72 : (act.eval (.tmp (72 : Nat))) = .slice px' n cx' := hin ⟨0, .data⟩ (by simp) rfl 72 rfl
              have i75 : ∃ q c, (act.eval (.tmp (75 : Nat))) = mV n n q N c ∧ Mx 3 cellsF u n n q N c PP ∧ Fresh W9.heap.size (.slice q N c) := hin ⟨3, .data⟩ (by simp) rfl 75 rfl
              obtain ⟨q0, c0', e1, hq⟩ := i75
              exact plain_wp (by intro c h; cases h) (fun _ _ => trivial) (by simp only [execOp, List.map_toArray, List.map_cons, List.map_nil, e1, i72]; simp [Tryz.buildSF, Result.andThen, go_sem]) ⟨_, rfl, ⟨q0, c0', rfl, hq⟩, TwoJ.bl (Bl.refl _) (by have := hu.but.size; omega) (by have := hu.but.size; omega)⟩
            · simp only [List.getElem?_toArray, List.getElem?_cons_zero, List.getElem?_cons_succ, Option.some.injEq] at ho
              subst ho
              have i15 : act.eval (.tmp (15 : Nat)) = .pointer (some ⟨b15, 0, none⟩) := hfr 15 (by decide)
              exact plain_wp (by intro c h; cases h) (fun _ _ => trivial) (by simp only [execOp, i15, evalC, evalF, evalG]; simp [go_sem, cE0, cE1, cE2]) ⟨_, rfl, rfl, TwoJ.bl (Bl.refl _) (by have := hu.but.size; omega) (by have := hu.but.size; omega)⟩
            · simp only [List.getElem?_toArray, List.getElem?_cons_zero, List.getElem?_cons_succ, Option.some.injEq] at ho
              subst ho
              have i13 : act.eval (.tmp (13 : Nat)) = .pointer (some ⟨b13, 0, none⟩) := hfr 13 (by decide)
              exact plain_wp (by intro c h; cases h) (fun _ _ => trivial) (by simp only [execOp, i13, evalC, evalF, evalG]; simp [go_sem, cA0, cA1, cA2]) ⟨_, rfl, rfl, TwoJ.bl (Bl.refl _) (by have := hu.but.size; omega) (by have := hu.but.size; omega)⟩
            · simp only [List.getElem?_toArray, List.getElem?_cons_zero, List.getElem?_cons_succ, Option.some.injEq] at ho
              subst ho
              have i77 : (act.eval (.tmp (77 : Nat))) = frV e9 := hin ⟨5, .data⟩ (by simp) rfl 77 rfl
              have i78 : (act.eval (.tmp (78 : Nat))) = frV a := hin ⟨6, .data⟩ (by simp) rfl 78 rfl
              exact plain_wp (by intro c h; cases h) (fun _ _ => trivial) (by simp only [execOp, List.map_toArray, List.map_cons, List.map_nil, i77, i78]; simp [Tryz.buildNF, Result.andThen, go_sem]) ⟨_, rfl, rfl, TwoJ.bl (Bl.refl _) (by have := hu.but.size; omega) (by have := hu.but.size; omega)⟩
            · simp only [List.getElem?_toArray, List.getElem?_cons_zero, List.getElem?_cons_succ, Option.some.injEq] at ho
              subst ho
              have i8 : act.eval (.tmp (8 : Nat)) = .pointer (some ⟨w.heap.size + 1 + 1 + 1, 0, none⟩) := hfr 8 (by decide)
              have i76 : ∃ q c, (act.eval (.tmp (76 : Nat))) = sJ px' n cx' n n q N c ∧ Mx 3 cellsF u n n q N c PP ∧ Fresh W9.heap.size (.slice q N c) := hin ⟨4, .data⟩ (by simp) rfl 76 rfl
              obtain ⟨q0, c0', e1, hq, hf⟩ := i76
              obtain ⟨qa, qb, qc, qd, qe, qf, qg, qh, sx⟩ : ∃ px nx cx r c p n cap, SBox u (w.heap.size + 1 + 1 + 1) px nx cx r c p n cap := by
                rcases hu.g8 with e | ⟨_, _, s, _⟩
                · exact ⟨_, _, _, _, _, _, _, _, SZ0.out.heap e hu.but.size⟩
                · exact ⟨_, _, _, _, _, _, _, _, s⟩
              have HQ := hideP hq
              have SX := hideP sx
              obtain ⟨d0, d1, d2, d3, g0, g1, g2, g3, ltd⟩ := id sx
              have F8 := fun (X : World) (hX : X = ((((u.setCell ⟨w.heap.size + 1 + 1 + 1, 0, none⟩ (.slice px' n cx')).setCell ⟨w.heap.size + 1 + 1 + 1, 1, none⟩ (.int .i64 n)).setCell ⟨w.heap.size + 1 + 1 + 1, 2, none⟩ (.int .i64 n)).setCell ⟨w.heap.size + 1 + 1 + 1, 3, none⟩ (.slice q0 N c0'))) => (show ∃ q c, SBox X (w.heap.size + 1 + 1 + 1) px' n cx' n n q N c ∧ Mx 3 cellsF X n n q N c PP ∧ Fresh W9.heap.size (.slice q N c) from by rw [hX]; exact ⟨q0, c0', SX.out.fill _ _ _ _ _ _ _ _, mx_put4 HQ.out (fresh_le hf (by omega)) _ _ _ _, hf⟩)
              exact skip_wp (by intro c h; cases h) (fun _ _ => trivial) (by simp only [execOp, i8, e1]; simp [go_sem, d0, d1, d2, d3, g0, g1, g2, g3]) ⟨undef, rfl, F8 _ rfl, ⟨(((but_cell1 (.inl rfl) _ _ _).trans (but_cell1 (.inl rfl) _ _ _)).trans (but_cell1 (.inl rfl) _ _ _)).trans (but_cell1 (.inl rfl) _ _ _), .inr (F8 _ rfl), .inl (by rw [heap1 _ (by omega), heap1 _ (by omega), heap1 _ (by omega), heap1 _ (by omega)])⟩⟩
            · simp only [List.getElem?_toArray, List.getElem?_cons_zero, List.getElem?_cons_succ, Option.some.injEq] at ho
              subst ho
              have i9 : act.eval (.tmp (9 : Nat)) = .pointer (some ⟨w.heap.size + 1 + 1 + 1 + 1, 0, none⟩) := hfr 9 (by decide)
              have i79 : (act.eval (.tmp (79 : Nat))) = newsVF e9 a := hin ⟨7, .data⟩ (by simp) rfl 79 rfl
              obtain ⟨x', y', nx⟩ : ∃ x y, NBoxF u (w.heap.size + 1 + 1 + 1 + 1) x y := by
                rcases hu.l9 with e | t
                · exact ⟨_, _, NZ0.out.heap e hu.but.size⟩
                · exact ⟨_, _, t⟩
              have NX := hideP nx
              obtain ⟨d0, d1, d2, d3, d4, d5, g0, g1, g2, g3, g4, g5, ltd⟩ := id nx
              exact skip_wp (by intro c h; cases h) (fun _ _ => trivial) (by simp only [execOp, i9, i79]; simp [go_sem, d0, d1, d2, d3, d4, d5, g0, g1, g2, g3, g4, g5]) ⟨undef, rfl, NX.out.fill e9 a, ⟨(((((but_cell1 (.inr rfl) _ _ _).trans (but_cell1 (.inr rfl) _ _ _)).trans (but_cell1 (.inr rfl) _ _ _)).trans (but_cell1 (.inr rfl) _ _ _)).trans (but_cell1 (.inr rfl) _ _ _)).trans (but_cell1 (.inr rfl) _ _ _), .inl (by rw [heap1 _ (by omega), heap1 _ (by omega), heap1 _ (by omega), heap1 _ (by omega), heap1 _ (by omega), heap1 _ (by omega)]), .inr (NX.out.fill e9 a)⟩⟩
            · simp only [List.getElem?_toArray, List.getElem?_cons_zero, List.getElem?_cons_succ, Option.some.injEq] at ho
              subst ho
              exact plain_wp (by intro c h; cases h) (fun _ _ => trivial) (by simp only [execOp, evalC, evalF, evalG]; simp [go_sem]) ⟨_, rfl, rfl, TwoJ.bl (Bl.refl _) (by have := hu.but.size; omega) (by have := hu.but.size; omega)⟩
          case fin =>
            intro vs u hu hin hnon
            have a0 := hin 0 72 rfl
            have a1 := hin 1 73 rfl
            have a2 := hin 2 74 rfl
            have a3 := hin 3 75 rfl
            have a4 := hin 4 76 rfl
            have a5 := hin 5 77 rfl
            have a6 := hin 6 78 rfl
            have a7 := hin 7 79 rfl
            have a8 := hnon 8 rfl
            have a9 := hnon 9 rfl
            have a10 := hin 10 10 rfl
            simp only [putL, Act.put, List.setIfInBounds_toArray, List.set_cons_zero, List.set_cons_succ, Nat.zero_add, Nat.reduceAdd, if_true, reduceIte] at a0 a1 a2 a3 a4 a5 a6 a7 a8 a9 a10 ⊢
            simp only [a0, a1, a2, a5, a6, a7, a10]
            obtain ⟨q, c, sx, hM, hF⟩ := a8
            obtain ⟨d0, d1, d2, d3, _, _, _, _, _⟩ := sx
            obtain ⟨n0, n1, n2, n3, n4, n5, _, _, _, _, _, _, _⟩ := a9
            have HM := hideP hM
            have HRW := hideP ((HRX.out.later b79).but hu.but (fun g hg => by have := HFX.out g hg; show ¬ (_ = _ ∨ _ = _); omega))
            have HFN := hideP hF
            clear a3 a4 hM hF hin hnon
            go_wp2
            simp [bodyPost, results, Tryz.results32, go_sem, d0, d1, d2, d3, n0, n1, n2, n3, n4, n5]
            refine ⟨px', cx', q, c, by simp, ⟨?_, HM.out, fresh_le HFX.out (by omega), fresh_le HFN.out (by omega)⟩, hu.but.bl B9 (fun i hi => by rcases hi with h | h <;> omega)⟩
            rw [HUX.out]
            exact HRW.out
end Go.Proofs.YthnadgbloamlaaaGreat

/- Contract of joseph's Update, of fractions (layer 9): what does not go together. Written by genJo.py. -/
namespace Go.Proofs.YthnadgbloamlaaaGreat
open Go.RowKit
set_option linter.unusedSimpArgs false
set_option linter.unusedVariables false

end Go.Proofs.YthnadgbloamlaaaGreat

/- Contract of joseph's Predict, of fractions (layer 9). Written by genJo.py. -/
namespace Go.Proofs.YthnadgbloamlaaaGreat
open Go.RowKit
set_option linter.unusedSimpArgs false
set_option linter.unusedVariables false

set_option maxRecDepth 100000 in
set_option maxHeartbeats 4000000 in
theorem jPredictF (n N : Nat) (px : Option Addr) (cx : Nat) (x : Nat → Fr) (p : Option Addr) (cap : Nat) (P : Nat → Nat → Fr) (pf : Option Addr) (cf : Nat) (f : Nat → Nat → Fr) (pg : Option Addr) (cg : Nat) (g : Nat → Nat → Fr) (w : World)
    (hx : Rq 3 cellsF w (.slice px n cx) (linJ n x)) (hP : Mx 3 cellsF w n n p N cap P) (hf : Mx 3 cellsF w n n pf N cf f) (hg : Mx 3 cellsF w n n pg N cg g) (h4 : n ≤ 4) :
    Calls Tryz.prog 30 #[sJ px n cx n n p N cap, mV n n pf N cf, mV n n pg N cg] w fun e w' => ∃ q c p' c', e = .returned (.tuple #[sJ q n c n n p' N c', .bool true]) ∧ (Rw 3 cellsF w' (.slice q n c) (linJ n (appJ kdF n f x)) ∧ Mx 3 cellsF w' n n p' N c' (predJ kdF n f P g)) ∧ Bl w w' := by
  have hfit := fitJ_dim hP.1 hP.2.1 h4
  obtain ⟨W, hW⟩ : ∃ W, W = (((w.alloc (.cells #[.slice px n cx, .int .i64 n, .int .i64 n, .slice p N cap] 66)).alloc (.cells #[.int .i64 n, .int .i64 n, .slice pf N cf] 60)).alloc (.cells #[.int .i64 n, .int .i64 n, .slice pg N cg] 60)).alloc (.cells #[.slice none 0 0, .int .i64 0, .int .i64 0, .slice none 0 0] 66) := ⟨_, rfl⟩
  have b0 : Bl w W := by rw [hW]; exact ((((Bl.refl _).alloc _).alloc _).alloc _).alloc _
  have s0 : SBox W w.heap.size px n cx n n p N cap := by rw [hW]; exact (SBox.new w _ _ _ _ _ _ _ _ _).later ((((Bl.refl _).alloc _).alloc _).alloc _)
  have mf0 : MBox W (w.heap.size + 1) n n pf N cf := by rw [hW]; have := MBox.new (w.alloc (.cells #[.slice px n cx, .int .i64 n, .int .i64 n, .slice p N cap] 66)) n n pf N cf 60; rw [World.size_alloc] at this; exact this.later (((Bl.refl _).alloc _).alloc _)
  have mg0 : MBox W (w.heap.size + 1 + 1) n n pg N cg := by rw [hW]; have := MBox.new ((w.alloc (.cells #[.slice px n cx, .int .i64 n, .int .i64 n, .slice p N cap] 66)).alloc (.cells #[.int .i64 n, .int .i64 n, .slice pf N cf] 60)) n n pg N cg 60; rw [World.size_alloc, World.size_alloc] at this; exact this.later ((Bl.refl _).alloc _)
  have z0 : SBox W (w.heap.size + 1 + 1 + 1) none 0 0 0 0 none 0 0 := by rw [hW]; have := SBox.new (((w.alloc (.cells #[.slice px n cx, .int .i64 n, .int .i64 n, .slice p N cap] 66)).alloc (.cells #[.int .i64 n, .int .i64 n, .slice pf N cf] 60)).alloc (.cells #[.int .i64 n, .int .i64 n, .slice pg N cg] 60)) none 0 0 0 0 none 0 0 66; rw [World.size_alloc, World.size_alloc, World.size_alloc] at this; exact this
  have hs : W.heap.size = w.heap.size + 1 + 1 + 1 + 1 := by rw [hW]; simp
  have HX := hideP hx
  have HP := hideP hP
  have HFX := hideP hf
  have HGX := hideP hg
  have HW := hideP hW
  clear hW hx hP hf hg
  go_enter Tryz.func30, Tryz.ntmps30
  go_wp2_with fail
  rw [← HW.out]
  refine (jRightF _ _ _ _ _ _ _ _ _).mono ?_
  rintro e w1 ⟨rfl, h1⟩
  rw [hfit]
  obtain ⟨c0, c1, c2, _, _, _, _⟩ := mf0.later h1
  go_wp2_with fail
  refine (jFitsF _ _ _ _ _ _ _).mono ?_
  rintro e w2 ⟨rfl, h2⟩
  rw [hfit]
  clear c0 c1 c2
  obtain ⟨c0, c1, c2, _, _, _, _⟩ := mg0.later (h1.trans h2)
  go_wp2_with fail
  refine (jFitsF _ _ _ _ _ _ _).mono ?_
  rintro e w3 ⟨rfl, h3⟩
  rw [hfit]
  clear c0 c1 c2
  have b3 : Bl W w3 := h1.trans (h2.trans h3)
  obtain ⟨c0, c1, c2, _, _, _, _⟩ := mf0.later b3
  obtain ⟨d0, d1, d2, d3, _, _, _, _, _⟩ := s0.later b3
  go_wp2_with fail
  refine (mApplyF' n n pf N cf f px cx (linJ n x) w3 (HFX.out.later (b0.trans b3)) (HX.out.later (b0.trans b3)) (linJ_len _ _)).mono ?_
  rintro e w4 ⟨q, c, rfl, hR, hFr, h4'⟩
  have HR := hideP (show Rw 3 cellsF w4 (.slice q n c) (linJ n (appJ kdF n f x)) from hR)
  have b4 : Bl W w4 := b3.trans h4'
  have HF := hideP (show Fresh (w.heap.size + 1 + 1 + 1 + 1) (.slice q n c) from fresh_le hFr (by have := b3.size; omega))
  clear c0 c1 c2 d0 d1 d2 d3 hR hFr
  obtain ⟨c0, c1, c2, _, _, _, _⟩ := mf0.later b4
  obtain ⟨d0, d1, d2, d3, _, _, _, _, _⟩ := s0.later b4
  go_wp2_with fail
  refine (jAroundF n N pf cf f p cap P w4 (HFX.out.later (b0.trans b4)) (HP.out.later (b0.trans b4))).mono ?_
  rintro e w5 ⟨p5, c5, rfl, ⟨h5x, _⟩, h5⟩
  have k5 := MBox.new w5 n n p5 N c5 60
  obtain ⟨W5, hW5⟩ : ∃ W5, W5 = w5.alloc (.cells #[.int .i64 n, .int .i64 n, .slice p5 N c5] 60) := ⟨_, rfl⟩
  have b5' : Bl w5 W5 := by rw [hW5]; exact (Bl.refl _).alloc _
  rw [← hW5] at k5
  have b5 : Bl W W5 := b4.trans (h5.trans b5')
  have H5 := hideP (Mx.later h5x b5')
  clear c0 c1 c2 d0 d1 d2 d3 h5x
  obtain ⟨c0, c1, c2, _, _, _, _⟩ := mg0.later b5
  have HW5 := hideP hW5
  rw [hW5] at c0 c1 c2
  clear hW5
  go_wp2_with fail
  rw [← HW5.out]
  refine (tSqF n pg N cg g W5 (HGX.out.later (b0.trans b5))).mono ?_
  rintro e w6 ⟨p6, c6, rfl, ⟨h6x, _⟩, h6⟩
  have k6 := MBox.new w6 n n p6 N c6 60
  obtain ⟨W6, hW6⟩ : ∃ W6, W6 = w6.alloc (.cells #[.int .i64 n, .int .i64 n, .slice p6 N c6] 60) := ⟨_, rfl⟩
  have b6' : Bl w6 W6 := by rw [hW6]; exact (Bl.refl _).alloc _
  rw [← hW6] at k6
  have b6 : Bl W W6 := b5.trans (h6.trans b6')
  have H6 := hideP (show Mx 3 cellsF W6 n n p6 N c6 (squareJ kdF n g) from Mx.later h6x b6')
  clear c0 c1 c2 h6x
  have k56 := k5.later (h6.trans b6')
  obtain ⟨c0, c1, c2, _, _, _, _⟩ := k6
  obtain ⟨d0, d1, d2, _, _, _, _⟩ := k56
  have HW6 := hideP hW6
  rw [hW6] at c0 c1 c2 d0 d1 d2
  clear hW6
  go_wp2_with fail
  rw [← HW6.out]
  refine (jMirroredF n N p5 c5 _ p6 c6 _ W6 (H5.out.later (h6.trans b6')) H6.out).mono ?_
  rintro e w7 ⟨p7, c7, rfl, ⟨h7x, hF7⟩, h7⟩
  have b7 : Bl W w7 := b6.trans h7
  have H7 := hideP (show Mx 3 cellsF w7 n n p7 N c7 (predJ kdF n f P g) from h7x)
  have HF7 := hideP (show Fresh (w.heap.size + 1 + 1 + 1 + 1) (.slice p7 N c7) from fresh_le hF7 (by have := b6.size; omega))
  clear c0 c1 c2 d0 d1 d2 h7x hF7 H5 H6
  obtain ⟨c0, c1, c2, c3, f0, f1, f2, f3, lt⟩ := z0.later b7
  have b47 : Bl w4 w7 := (h5.trans b5').trans ((h6.trans b6').trans h7)
  have BS := Tryz.buildSF q n c n n p7 N c7 w7
  go_wp2
  simp [bodyPost, results, Tryz.results30, go_sem, c0, c1, c2, c3]
  exact ⟨q, c, p7, c7, by simp, ⟨rw_put4F (HR.out.later b47) HF.out _ _ _ _, mx_put4 H7.out HF7.out _ _ _ _⟩, Bl.put4 (b0.trans b7) (by omega) _ _ _ _⟩
end Go.Proofs.YthnadgbloamlaaaGreat
