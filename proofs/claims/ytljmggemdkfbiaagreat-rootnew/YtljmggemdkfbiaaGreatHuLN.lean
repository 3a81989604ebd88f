/- Contract of house's less, of enclosed numbers (layer 8). Written by genHu.py. -/
import Derived.Test.YtljmggemdkfbiaaGreatHuCN
namespace Go.Proofs.YtljmggemdkfbiaaGreat
open Go.RowKit Go.Shelf
set_option linter.unusedSimpArgs false
set_option linter.unusedVariables false
attribute [local go_sem] Oper.semAt_some

set_option maxRecDepth 100000 in
set_option maxHeartbeats 2000000 in
theorem hLessN (vw vv : Value) (ws vs : List En) (q : En) (w : World) (hw : Rq 4 cellsN w vw ws) (hv : Rw 4 cellsN w vv vs) (hl : ws.length ≤ 1000000) (hm : vs.length ≤ 1000000) :
    Calls Tryz.prog 155 #[vw, vv, enV q] w fun e w' => ∃ u, e = .returned u ∧ Rw 4 cellsN w' u (lessH kdN ws vs q) ∧ Bl w w' := by
  have fm : Tryz.prog.follows .mixedOrders = true := by kernel_rfl
  have egA := enters_of Tryz.func202 (by kernel_rfl) rfl
  have egD := enters_of Tryz.func203 (by kernel_rfl) rfl
  have HL := hideP (show lessH kdN ws vs q = List.zipWith subE ws (vs.map fun x => mulE x (divE (addE (dotN ws vs) (dotN ws vs)) q)) from rfl)
  obtain ⟨W, hW⟩ : ∃ W, W = w.alloc (.cells #[.int .i64 q.v, .int .i64 q.l, .int .i64 q.h, .bool q.bad] 52) := ⟨_, rfl⟩
  have b0 : Bl w W := by rw [hW]; exact (Bl.refl _).alloc _
  have kq : Box W w.heap.size q := by rw [hW]; exact Box.new w q 52
  have DOT := hideP (fun u (hu : Bl w u) => vDotN vw vv ws vs u (hw.later hu) (hv.q.later hu) hl hm)
  obtain ⟨d, hd⟩ : ∃ d, d = dotN ws vs := ⟨_, rfl⟩
  rw [← hd] at DOT HL
  obtain ⟨s, hs⟩ : ∃ s, s = addE d d := ⟨_, rfl⟩
  have ADD := hideP (fun u => by have := eadd_any d d u; rw [← hs] at this; exact this)
  rw [← hs] at HL
  obtain ⟨t, ht⟩ : ∃ t, t = divE s q := ⟨_, rfl⟩
  have DIV := hideP (fun u => by have := ediv_any s q u; rw [← ht] at this; exact this)
  rw [← ht] at HL
  have SCL := hideP (fun u (hu : Bl w u) => vScaleN vv vs t u (hv.later hu) hm)
  have HW0 := hideP hw
  have HW := hideP hW
  clear hW hw hv hd hs ht
  go_enter Tryz.func155, Tryz.ntmps155
  go_wp2_with fail
  rw [← HW.out]
  refine (DOT.out _ b0).mono ?_
  rintro e w1 ⟨rfl, h1'⟩
  have h1 : Bl W w1 := h1'
  obtain ⟨W1, hW1⟩ : ∃ W1, W1 = w1.alloc (.cells #[.int .i64 d.v, .int .i64 d.l, .int .i64 d.h, .bool d.bad] 52) := ⟨_, rfl⟩
  have b1 : Bl w1 W1 := by rw [hW1]; exact (Bl.refl _).alloc _
  have k1 := Box.new w1 d 52
  rw [← hW1] at k1
  have wW1 : Bl w W1 := (b0.trans h1).trans b1
  have HW1 := hideP hW1
  clear hW1 DOT
  go_wp2_with fail
  rw [← HW1.out]
  refine (wpIn_wide (n := 8)).1 (region_q fm [some 11, some 12, some 13, some 14, some 15, some 16, some 17, none] (fun _ => false) 7 (by kernel_rfl) (by rfl)
    (fun j v u => match j with | 0 => v = enV d | 1 => v = .iface 52 (enV d) | 2 => v = enV d | 3 => v = enV s | 4 => v = .iface 52 (enV s) | 5 => v = enV q | 6 => v = enV t | _ => False)
    (fun j v u u' _ h => h) (fun vs u0 u => Box u w1.heap.size t ∧ Bl w u) ?step ?still ?store ?fin)
  case step =>
    intro j o t act u ho hdt hpu hsz hu hfr hin
    have hj : j < 8 := (Array.getElem?_eq_some_iff.1 ho).1
    obtain ⟨c0, c1, c2, c3, f0, f1, f2, f3, ltq⟩ := kq.later (h1.trans (b1.trans hu))
    obtain ⟨d0, d1, d2, d3, g0, g1, g2, g3, ltd⟩ := k1.later hu
    rcases (by omega : j = 0 ∨ j = 1 ∨ j = 2 ∨ j = 3 ∨ j = 4 ∨ j = 5 ∨ j = 6 ∨ j = 7) with rfl | rfl | rfl | rfl | rfl | rfl | rfl | rfl
    · simp only [List.getElem?_toArray, List.getElem?_cons_zero, List.getElem?_cons_succ, Option.some.injEq] at ho
      subst ho
      obtain rfl := Option.some.inj hdt
      have i7 : act.eval (.tmp (7 : Nat)) = .pointer (some ⟨w1.heap.size, 0, none⟩) := hfr 7 (by decide)
      exact plain_wp (by intro c h; cases h) (fun _ _ => trivial) (by simp only [execOp, i7, evalC, evalF, evalG]; simp [go_sem, c0, c1, c2, c3, d0, d1, d2, d3]) ⟨_, rfl, rfl, Bl.refl _⟩
    · simp only [List.getElem?_toArray, List.getElem?_cons_zero, List.getElem?_cons_succ, Option.some.injEq] at ho
      subst ho
      obtain rfl := Option.some.inj hdt
      have i11 : (act.eval (.tmp (11 : Nat))) = enV d := hin ⟨0, .data⟩ (by simp) rfl 11 rfl
      exact plain_wp (by intro c h; cases h) (fun _ _ => trivial) (by simp only [execOp, i11, evalC, evalF, evalG]; simp [go_sem, c0, c1, c2, c3, d0, d1, d2, d3]) ⟨_, rfl, rfl, Bl.refl _⟩
    · simp only [List.getElem?_toArray, List.getElem?_cons_zero, List.getElem?_cons_succ, Option.some.injEq] at ho
      subst ho
      obtain rfl := Option.some.inj hdt
      have i7 : act.eval (.tmp (7 : Nat)) = .pointer (some ⟨w1.heap.size, 0, none⟩) := hfr 7 (by decide)
      exact plain_wp (by intro c h; cases h) (fun _ _ => trivial) (by simp only [execOp, i7, evalC, evalF, evalG]; simp [go_sem, c0, c1, c2, c3, d0, d1, d2, d3]) ⟨_, rfl, rfl, Bl.refl _⟩
    · simp only [List.getElem?_toArray, List.getElem?_cons_zero, List.getElem?_cons_succ, Option.some.injEq] at ho
      subst ho
      obtain rfl := Option.some.inj hdt
      have i12 : (act.eval (.tmp (12 : Nat))) = .iface 52 (enV d) := hin ⟨1, .data⟩ (by simp) rfl 12 rfl
      have i13 : (act.eval (.tmp (13 : Nat))) = enV d := hin ⟨2, .data⟩ (by simp) rfl 13 rfl
      have iv := Tryz.hAddN
      refine enter_wp 202 #[enV d, enV d] (by intro c h; cases h) (fun _ _ => trivial) (by simp only [execOp, evalC, evalF, evalG, resolve, i12, i13, List.map_toArray, List.map_cons, List.map_nil]; simp [invoke, iv, egA, Result.andThen, go_sem]) (by intro h; cases h) (callsIn_wide.2 (ADD.out u)) ?_
      rintro e w' ⟨rfl, hb⟩
      exact ⟨_, rfl, _, rfl, rfl, hb⟩
    · simp only [List.getElem?_toArray, List.getElem?_cons_zero, List.getElem?_cons_succ, Option.some.injEq] at ho
      subst ho
      obtain rfl := Option.some.inj hdt
      have i14 : (act.eval (.tmp (14 : Nat))) = enV s := hin ⟨3, .data⟩ (by simp) rfl 14 rfl
      exact plain_wp (by intro c h; cases h) (fun _ _ => trivial) (by simp only [execOp, i14, evalC, evalF, evalG]; simp [go_sem, c0, c1, c2, c3, d0, d1, d2, d3]) ⟨_, rfl, rfl, Bl.refl _⟩
    · simp only [List.getElem?_toArray, List.getElem?_cons_zero, List.getElem?_cons_succ, Option.some.injEq] at ho
      subst ho
      obtain rfl := Option.some.inj hdt
      have i5 : act.eval (.tmp (5 : Nat)) = .pointer (some ⟨w.heap.size, 0, none⟩) := hfr 5 (by decide)
      exact plain_wp (by intro c h; cases h) (fun _ _ => trivial) (by simp only [execOp, i5, evalC, evalF, evalG]; simp [go_sem, c0, c1, c2, c3, d0, d1, d2, d3]) ⟨_, rfl, rfl, Bl.refl _⟩
    · simp only [List.getElem?_toArray, List.getElem?_cons_zero, List.getElem?_cons_succ, Option.some.injEq] at ho
      subst ho
      obtain rfl := Option.some.inj hdt
      have i15 : (act.eval (.tmp (15 : Nat))) = .iface 52 (enV s) := hin ⟨4, .data⟩ (by simp) rfl 15 rfl
      have i16 : (act.eval (.tmp (16 : Nat))) = enV q := hin ⟨5, .data⟩ (by simp) rfl 16 rfl
      have iv := Tryz.mDivN
      refine enter_wp 203 #[enV s, enV q] (by intro c h; cases h) (fun _ _ => trivial) (by simp only [execOp, evalC, evalF, evalG, resolve, i15, i16, List.map_toArray, List.map_cons, List.map_nil]; simp [invoke, iv, egD, Result.andThen, go_sem]) (by intro h; cases h) (callsIn_wide.2 (DIV.out u)) ?_
      rintro e w' ⟨rfl, hb⟩
      exact ⟨_, rfl, _, rfl, rfl, hb⟩
    · simp only [List.getElem?_toArray, List.getElem?_cons_zero, List.getElem?_cons_succ, Option.some.injEq] at ho
      subst ho
      cases hdt
  case still =>
    intro j o t act u0 u ho hdt hpu
    cases hpu
  case store =>
    intro o act u vs ho hsz hu hfr hin
    simp only [List.getElem?_toArray, List.getElem?_cons_zero, List.getElem?_cons_succ, Option.some.injEq] at ho
    subst ho
    have i7 : act.eval (.tmp (7 : Nat)) = .pointer (some ⟨w1.heap.size, 0, none⟩) := hfr 7 (by decide)
    obtain ⟨i17, k17⟩ : act.eval (.tmp (17 : Nat)) = vs 6 ∧ ((vs 6) = enV t) := hin 6 17 rfl rfl
    rw [k17] at i17
    obtain ⟨c0, c1, c2, c3, f0, f1, f2, f3, ltb⟩ := k1.later hu
    exact skip_wp (by intro c h; cases h) (fun _ _ => trivial) (by simp only [execOp, i7, i17]; simp [go_sem, c0, c1, c2, c3, f0, f1, f2, f3]) ⟨rfl, (k1.later hu).fill _, Bl.set4 (wW1.trans hu) (by have := (b0.trans h1).size; omega) _ _ _ _⟩
  case fin =>
    intro vs vb u0 u hu hin hps
    have a0 := hin 0 11 rfl
    have a1 := hin 1 12 rfl
    have a2 := hin 2 13 rfl
    have a3 := hin 3 14 rfl
    have a4 := hin 4 15 rfl
    have a5 := hin 5 16 rfl
    have a6 := hin 6 17 rfl
    simp only [putL, Act.put, List.setIfInBounds_toArray, List.set_cons_zero, List.set_cons_succ, Nat.zero_add, Nat.reduceAdd, Nat.reduceBEq, Bool.or_false, Bool.or_true, Bool.false_or, Bool.true_or, Bool.false_eq_true, if_false, if_true, reduceIte, Nat.reduceEqDiff, beq_self_eq_true, Bool.or_self] at a0 a1 a2 a3 a4 a5 a6 ⊢
    rw [if_pos (by decide)] at hps
    simp only [a0, a1, a2, a3, a4, a5, a6]
    obtain ⟨bt, hbt⟩ := hps
    obtain ⟨c0, c1, c2, c3, f0, f1, f2, f3, ltb⟩ := bt
    go_wp2_with fail
    refine (SCL.out _ hbt).mono ?_
    rintro e w2 ⟨u2, rfl, hs2, h2⟩
    have HS2 := hideP hs2
    clear hs2 c0 c1 c2 c3 f0 f1 f2 f3
    go_wp2_with fail
    refine (vSubN _ _ ws _ _ (HW0.out.later (hbt.trans h2)) HS2.out.q hl (by rw [List.length_map]; exact hm)).mono ?_
    rintro e w3 ⟨u3, rfl, hs3, h3⟩
    have HS3 := hideP hs3
    clear hs3
    go_wp2
    go_ret
    exact ⟨_, rfl, by rw [HL.out]; exact HS3.out, (hbt.trans h2).trans h3⟩
end Go.Proofs.YtljmggemdkfbiaaGreat
