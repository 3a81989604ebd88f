/- Contract of house's less, of fractions (layer 8). Written by genHu.py. -/
import Derived.Test.YthnadgbloamlaaaGreatHuCF
namespace Go.Proofs.YthnadgbloamlaaaGreat
open Go.RowKit Go.Shelf
set_option linter.unusedSimpArgs false
set_option linter.unusedVariables false
attribute [local go_sem] Oper.semAt_some

set_option maxRecDepth 100000 in
set_option maxHeartbeats 2000000 in
theorem hLessF (vw vv : Value) (ws vs : List Fr) (q : Fr) (w : World) (hw : Rq 3 cellsF w vw ws) (hv : Rw 3 cellsF w vv vs) (hl : ws.length ≤ 1000000) (hm : vs.length ≤ 1000000) :
    Calls Tryz.prog 177 #[vw, vv, frV q] w fun e w' => ∃ u, e = .returned u ∧ Rw 3 cellsF w' u (lessH kdF ws vs q) ∧ Bl w w' := by
  have fm : Tryz.prog.follows .mixedOrders = true := by kernel_rfl
  have egA := enters_of Tryz.func266 (by kernel_rfl) rfl
  have egD := enters_of Tryz.func267 (by kernel_rfl) rfl
  have HL := hideP (show lessH kdF ws vs q = List.zipWith subR ws (vs.map fun x => mulR x (divR (addR (dotF ws vs) (dotF ws vs)) q)) from rfl)
  obtain ⟨W, hW⟩ : ∃ W, W = w.alloc (.cells #[.int .i64 q.n, .int .i64 q.d, .bool q.bad] 64) := ⟨_, rfl⟩
  have b0 : Bl w W := by rw [hW]; exact (Bl.refl _).alloc _
  have kq : FBox W w.heap.size q := by rw [hW]; exact FBox.new w q 64
  have DOT := hideP (fun u (hu : Bl w u) => vDotF vw vv ws vs u (hw.later hu) (hv.q.later hu) hl hm)
  obtain ⟨d, hd⟩ : ∃ d, d = dotF ws vs := ⟨_, rfl⟩
  rw [← hd] at DOT HL
  obtain ⟨s, hs⟩ : ∃ s, s = addR d d := ⟨_, rfl⟩
  have ADD := hideP (fun u => by have := radd_any d d u; rw [← hs] at this; exact this)
  rw [← hs] at HL
  obtain ⟨t, ht⟩ : ∃ t, t = divR s q := ⟨_, rfl⟩
  have DIV := hideP (fun u => by have := rdiv_any s q u; rw [← ht] at this; exact this)
  rw [← ht] at HL
  have SCL := hideP (fun u (hu : Bl w u) => vScaleF vv vs t u (hv.later hu) hm)
  have HW0 := hideP hw
  have HW := hideP hW
  clear hW hw hv hd hs ht
  go_enter Tryz.func177, Tryz.ntmps177
  go_wp2_with fail
  rw [← HW.out]
  refine (DOT.out _ b0).mono ?_
  rintro e w1 ⟨rfl, h1'⟩
  have h1 : Bl W w1 := h1'
  obtain ⟨W1, hW1⟩ : ∃ W1, W1 = w1.alloc (.cells #[.int .i64 d.n, .int .i64 d.d, .bool d.bad] 64) := ⟨_, rfl⟩
  have b1 : Bl w1 W1 := by rw [hW1]; exact (Bl.refl _).alloc _
  have k1 := FBox.new w1 d 64
  rw [← hW1] at k1
  have wW1 : Bl w W1 := (b0.trans h1).trans b1
  have HW1 := hideP hW1
  clear hW1 DOT
  go_wp2_with fail
  rw [← HW1.out]
  refine (wpIn_wide (n := 8)).1 (region_q fm [some 11, some 12, some 13, some 14, some 15, some 16, some 17, none] (fun _ => false) 7 (by kernel_rfl) (by rfl)
    (fun j v u => match j with | 0 => v = frV d | 1 => v = .iface 64 (frV d) | 2 => v = frV d | 3 => v = frV s | 4 => v = .iface 64 (frV s) | 5 => v = frV q | 6 => v = frV t | _ => False)
    (fun j v u u' _ h => h) (fun vs u0 u => FBox u w1.heap.size t ∧ Bl w u) ?step ?still ?store ?fin)
  case step =>
    intro j o t act u ho hdt hpu hsz hu hfr hin
    have hj : j < 8 := (Array.getElem?_eq_some_iff.1 ho).1
    obtain ⟨c0, c1, c2, f0, f1, f2, ltq⟩ := kq.later (h1.trans (b1.trans hu))
    obtain ⟨d0, d1, d2, g0, g1, g2, ltd⟩ := k1.later hu
    rcases (by omega : j = 0 ∨ j = 1 ∨ j = 2 ∨ j = 3 ∨ j = 4 ∨ j = 5 ∨ j = 6 ∨ j = 7) with rfl | rfl | rfl | rfl | rfl | rfl | rfl | rfl
    · simp only [List.getElem?_toArray, List.getElem?_cons_zero, List.getElem?_cons_succ, Option.some.injEq] at ho
      subst ho
      obtain rfl := Option.some.inj hdt
      have i7 : act.eval (.tmp (7 : Nat)) = .pointer (some ⟨w1.heap.size, 0, none⟩) := hfr 7 (by decide)
      exact plain_wp (by intro c h; cases h) (fun _ _ => trivial) (by simp only [execOp, i7, evalC, evalF, evalG]; simp [go_sem, c0, c1, c2, d0, d1, d2]) ⟨_, rfl, rfl, Bl.refl _⟩
    · simp only [List.getElem?_toArray, List.getElem?_cons_zero, List.getElem?_cons_succ, Option.some.injEq] at ho
      subst ho
      obtain rfl := Option.some.inj hdt
      have i11 : (act.eval (.tmp (11 : Nat))) = frV d := hin ⟨0, .data⟩ (by simp) rfl 11 rfl
      exact plain_wp (by intro c h; cases h) (fun _ _ => trivial) (by simp only [execOp, i11, evalC, evalF, evalG]; simp [go_sem, c0, c1, c2, d0, d1, d2]) ⟨_, rfl, rfl, Bl.refl _⟩
    · simp only [List.getElem?_toArray, List.getElem?_cons_zero, List.getElem?_cons_succ, Option.some.injEq] at ho
      subst ho
      obtain rfl := Option.some.inj hdt
      have i7 : act.eval (.tmp (7 : Nat)) = .pointer (some ⟨w1.heap.size, 0, none⟩) := hfr 7 (by decide)
      exact plain_wp (by intro c h; cases h) (fun _ _ => trivial) (by simp only [execOp, i7, evalC, evalF, evalG]; simp [go_sem, c0, c1, c2, d0, d1, d2]) ⟨_, rfl, rfl, Bl.refl _⟩
    · simp only [List.getElem?_toArray, List.getElem?_cons_zero, List.getElem?_cons_succ, Option.some.injEq] at ho
      subst ho
      obtain rfl := Option.some.inj hdt
      have i12 : (act.eval (.tmp (12 : Nat))) = .iface 64 (frV d) := hin ⟨1, .data⟩ (by simp) rfl 12 rfl
      have i13 : (act.eval (.tmp (13 : Nat))) = frV d := hin ⟨2, .data⟩ (by simp) rfl 13 rfl
      have iv := Tryz.hAddF
      refine enter_wp 266 #[frV d, frV d] (by intro c h; cases h) (fun _ _ => trivial) (by simp only [execOp, evalC, evalF, evalG, resolve, i12, i13, List.map_toArray, List.map_cons, List.map_nil]; simp [invoke, iv, egA, Result.andThen, go_sem]) (by intro h; cases h) (callsIn_wide.2 (ADD.out u)) ?_
      rintro e w' ⟨rfl, hb⟩
      exact ⟨_, rfl, _, rfl, rfl, hb⟩
    · simp only [List.getElem?_toArray, List.getElem?_cons_zero, List.getElem?_cons_succ, Option.some.injEq] at ho
      subst ho
      obtain rfl := Option.some.inj hdt
      have i14 : (act.eval (.tmp (14 : Nat))) = frV s := hin ⟨3, .data⟩ (by simp) rfl 14 rfl
      exact plain_wp (by intro c h; cases h) (fun _ _ => trivial) (by simp only [execOp, i14, evalC, evalF, evalG]; simp [go_sem, c0, c1, c2, d0, d1, d2]) ⟨_, rfl, rfl, Bl.refl _⟩
    · simp only [List.getElem?_toArray, List.getElem?_cons_zero, List.getElem?_cons_succ, Option.some.injEq] at ho
      subst ho
      obtain rfl := Option.some.inj hdt
      have i5 : act.eval (.tmp (5 : Nat)) = .pointer (some ⟨w.heap.size, 0, none⟩) := hfr 5 (by decide)
      exact plain_wp (by intro c h; cases h) (fun _ _ => trivial) (by simp only [execOp, i5, evalC, evalF, evalG]; simp [go_sem, c0, c1, c2, d0, d1, d2]) ⟨_, rfl, rfl, Bl.refl _⟩
    · simp only [List.getElem?_toArray, List.getElem?_cons_zero, List.getElem?_cons_succ, Option.some.injEq] at ho
      subst ho
      obtain rfl := Option.some.inj hdt
      have i15 : (act.eval (.tmp (15 : Nat))) = .iface 64 (frV s) := hin ⟨4, .data⟩ (by simp) rfl 15 rfl
      have i16 : (act.eval (.tmp (16 : Nat))) = frV q := hin ⟨5, .data⟩ (by simp) rfl 16 rfl
      have iv := Tryz.mDivF
      refine enter_wp 267 #[frV s, frV q] (by intro c h; cases h) (fun _ _ => trivial) (by simp only [execOp, evalC, evalF, evalG, resolve, i15, i16, List.map_toArray, List.map_cons, List.map_nil]; simp [invoke, iv, egD, Result.andThen, go_sem]) (by intro h; cases h) (callsIn_wide.2 (DIV.out u)) ?_
      rintro e w' ⟨rfl, hb⟩
      exact ⟨_, rfl, _, rfl, rfl, hb⟩
    · simp only [List.getElem?_toArray, List.getElem?_cons_zero, List.getElem?_cons_succ, Option.some.injEq] at ho
      subst ho
      cases hdt
  case still =>
    intro j o t act u0 u ho hdt hpu
    cases hpu
  case store =>
    intro o act u vs ho hsz hu hfr hin
    simp only [List.getElem?_toArray, List.getElem?_cons_zero, List.getElem?_cons_succ, Option.some.injEq] at ho
    subst ho
    have i7 : act.eval (.tmp (7 : Nat)) = .pointer (some ⟨w1.heap.size, 0, none⟩) := hfr 7 (by decide)
    obtain ⟨i17, k17⟩ : act.eval (.tmp (17 : Nat)) = vs 6 ∧ ((vs 6) = frV t) := hin 6 17 rfl rfl
    rw [k17] at i17
    obtain ⟨c0, c1, c2, f0, f1, f2, ltb⟩ := k1.later hu
    exact skip_wp (by intro c h; cases h) (fun _ _ => trivial) (by simp only [execOp, i7, i17]; simp [go_sem, c0, c1, c2, f0, f1, f2]) ⟨rfl, (k1.later hu).fill _, Bl.set3 (wW1.trans hu) (by have := (b0.trans h1).size; omega) _ _ _⟩
  case fin =>
    intro vs vb u0 u hu hin hps
    have a0 := hin 0 11 rfl
    have a1 := hin 1 12 rfl
    have a2 := hin 2 13 rfl
    have a3 := hin 3 14 rfl
    have a4 := hin 4 15 rfl
    have a5 := hin 5 16 rfl
    have a6 := hin 6 17 rfl
    simp only [putL, Act.put, List.setIfInBounds_toArray, List.set_cons_zero, List.set_cons_succ, Nat.zero_add, Nat.reduceAdd, Nat.reduceBEq, Bool.or_false, Bool.or_true, Bool.false_or, Bool.true_or, Bool.false_eq_true, if_false, if_true, reduceIte, Nat.reduceEqDiff, beq_self_eq_true, Bool.or_self] at a0 a1 a2 a3 a4 a5 a6 ⊢
    rw [if_pos (by decide)] at hps
    simp only [a0, a1, a2, a3, a4, a5, a6]
    obtain ⟨bt, hbt⟩ := hps
    obtain ⟨c0, c1, c2, f0, f1, f2, ltb⟩ := bt
    go_wp2_with fail
    refine (SCL.out _ hbt).mono ?_
    rintro e w2 ⟨u2, rfl, hs2, h2⟩
    have HS2 := hideP hs2
    clear hs2 c0 c1 c2 f0 f1 f2
    go_wp2_with fail
    refine (vSubF _ _ ws _ _ (HW0.out.later (hbt.trans h2)) HS2.out.q hl (by rw [List.length_map]; exact hm)).mono ?_
    rintro e w3 ⟨u3, rfl, hs3, h3⟩
    have HS3 := hideP hs3
    clear hs3
    go_wp2
    go_ret
    exact ⟨_, rfl, by rw [HL.out]; exact HS3.out, (hbt.trans h2).trans h3⟩
end Go.Proofs.YthnadgbloamlaaaGreat
