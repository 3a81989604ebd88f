/- Contract of joseph's Update, of enclosed numbers (layer 9): what goes together. Written by genJo.py. -/
import Derived.Test.YtljmggemdkfbiaaGreatYE
import Derived.Test.YtljmggemdkfbiaaGreatYH
import Derived.Test.YtljmggemdkfbiaaGreatYG
import Derived.Test.YtljmggemdkfbiaaGreatYB
import Derived.Test.YtljmggemdkfbiaaGreatYD
import Derived.Laws.EntriesVeiled
namespace Go.Proofs.YtljmggemdkfbiaaGreat
open Go.RowKit
set_option linter.unusedSimpArgs false
set_option linter.unusedVariables false
theorem opYI {α : Type} {l : List α} {k : Nat} {o : α} (h : l.toArray[k]? = some o) : l[k]? = some o := by rwa [List.getElem?_toArray] at h
def Low {α : Type} (z : α) (s : Nat → Nat → α) : Prop := ∀ i k, i < k → s i k = z
theorem den_pos (q : Rat) : (0 : Int) < q.den := by have := q.den_pos; omega
def lowN (e : En) : Bool := decide (signE e < 0)
end Go.Proofs.YtljmggemdkfbiaaGreat
namespace Go.Proofs.YtljmggemdkfbiaaGreat
open Go.RowKit Go.Shelf
set_option linter.unusedSimpArgs false
set_option linter.unusedVariables false
attribute [local go_sem] Oper.semAt_some
theorem Tryz.hSignN (x : Value) (w : World) : (method 327 52 x "Sign").run Tryz.prog w = .ok (207, x) w := by kernel_rfl
theorem Tryz.hNegN (x : Value) (w : World) : (method 327 52 x "Neg").run Tryz.prog w = .ok (205, x) w := by kernel_rfl
theorem Tryz.hAddN (x : Value) (w : World) : (method 327 52 x "Add").run Tryz.prog w = .ok (202, x) w := by kernel_rfl
theorem hAwayN (v : Value) (xs : List En) (x : En) (w : World) (h : Rq 4 cellsN w v xs) (hl : xs.length ≤ 1000000) (hx : xs[0]? = some x) :
  Calls Tryz.prog 154 #[v] w fun e w' => e = .returned (enV (if lowN x = true then rootE (dotN xs xs) else negE (rootE (dotN xs xs)))) ∧ Bl w w' := by
 have mr := Tryz.mRootN
 have ms := Tryz.hSignN
 have mn := Tryz.hNegN
 have hlen : 0 < xs.length := (List.getElem?_eq_some_iff.1 hx).1
 obtain ⟨b, o, cap, rfl, hcap, hb, CX⟩ : ∃ b o cap, v = .slice (some ⟨b, o, none⟩) xs.length cap ∧ xs.length ≤ cap ∧ b < w.heap.size ∧ ∀ k u, (cellsN x)[k]? = some u → w.cell? ⟨b, o + k, none⟩ = some u := by
  rcases h with ⟨p, cap, _, rfl, _⟩ | ⟨b, o, cap, e, hc, hb, hq⟩
  ·simp at hlen
  ·exact ⟨b, o, cap, e, hc, hb, fun k u hu => by have := hq 0 x hx k u hu; simpa using this⟩
 have DOT := hideP (fun u (hu : Bl w u) => vDotN (.slice (some ⟨b, o, none⟩) xs.length cap) (.slice (some ⟨b, o, none⟩) xs.length cap) xs xs u (h.later hu) (h.later hu) hl hl)
 obtain ⟨d, hd⟩ : ∃ d, d = dotN xs xs := ⟨_, rfl⟩
 rw [← hd] at DOT ⊢
 obtain ⟨r, hr⟩ : ∃ r, r = rootE d := ⟨_, rfl⟩
 have ROOT := hideP (fun u => by have := eroot_any d u; rw [← hr] at this; exact this)
 rw [← hr]
 obtain ⟨l, hl0⟩ : ∃ l, l = xs.length := ⟨_, rfl⟩
 rw [← hl0] at DOT hlen hcap ⊢
 have HX := hideP CX
 clear h hx hd hr hl hl0 CX
 have SG := hideP (show lowN x = decide (signE x < 0) from rfl)
 have SGC := hideP (fun u => signE_any x u)
 generalize signE x = sg at *
 generalize lowN x = lo at *
 obtain ⟨W, hW⟩ : ∃ W, W = w.alloc (.cells #[.int .i64 0, .int .i64 0, .int .i64 0, .bool false] 52) := ⟨_, rfl⟩
 have b0 : Bl w W := by rw [hW]; exact (Bl.refl _).alloc _
 have x0 : Box W w.heap.size zeroE := by rw [hW]; exact Box.new w zeroE 52
 have HW := hideP hW
 clear hW
 go_enter Tryz.func154, Tryz.ntmps154
 go_wp2_with fail
 rw [← HW.out]
 refine (DOT.out _ b0).mono ?_
 rintro e w1 ⟨rfl, h1⟩
 go_wp2_with fail
 refine (ROOT.out _).mono ?_
 rintro e w2 ⟨rfl, h2⟩
 obtain ⟨W2, hW2⟩ : ∃ W2, W2 = w2.alloc (.cells #[.int .i64 r.v, .int .i64 r.l, .int .i64 r.h, .bool r.bad] 52) := ⟨_, rfl⟩
 have b2 : Bl w2 W2 := by rw [hW2]; exact (Bl.refl _).alloc _
 have k2 := Box.new w2 r 52
 rw [← hW2] at k2
 have y0 := (x0.later (h1.trans h2)).later b2
 have wW2 : Bl w W2 := b0.trans ((h1.trans h2).trans b2)
 have q0 : w2.cell? ⟨b, o, none⟩ = some (.int .i64 x.v) := (bl_cell (b0.trans (h1.trans h2)) _ _ hb).trans (HX.out 0 _ rfl)
 have q1 : w2.cell? ⟨b, o + 1, none⟩ = some (.int .i64 x.l) := (bl_cell (b0.trans (h1.trans h2)) _ _ hb).trans (HX.out 1 _ rfl)
 have q2 : w2.cell? ⟨b, o + 2, none⟩ = some (.int .i64 x.h) := (bl_cell (b0.trans (h1.trans h2)) _ _ hb).trans (HX.out 2 _ rfl)
 have q3 : w2.cell? ⟨b, o + 3, none⟩ = some (.bool x.bad) := (bl_cell (b0.trans (h1.trans h2)) _ _ hb).trans (HX.out 3 _ rfl)
 have hb2 : b < w2.heap.size := Nat.lt_of_lt_of_le hb (Below.size (b0.trans (h1.trans h2)))
 have HW2 := hideP hW2
 clear hW2 DOT ROOT
 go_wp2_with fail
 rw [← HW2.out]
 refine (SGC.out _).mono ?_
 rintro e w3 ⟨rfl, h3⟩
 clear q0 q1 q2 q3
 obtain ⟨c0, c1, c2, c3, f0, f1, f2, f3, lt3⟩ := k2.later h3
 obtain ⟨d0, d1, d2, d3, g0, g1, g2, g3, lt4⟩ := y0.later h3
 by_cases hs : sg < 0
 ·have hlo : lo = true := by rw [SG.out]; exact decide_eq_true hs
  subst hlo
  go_wp2
  simp [bodyPost, results, Tryz.results154, go_sem, c0, c1, c2, c3, d0, d1, d2, d3]
  exact Bl.set4 (wW2.trans h3) (Nat.le_refl _) _ _ _ _
 ·have hlo : lo = false := by rw [SG.out]; exact decide_eq_false hs
  subst hlo
  go_wp2_with fail
  refine (eneg_any r _).mono ?_
  rintro e w4 ⟨rfl, h4⟩
  clear c0 c1 c2 c3 f0 f1 f2 f3 d0 d1 d2 d3 g0 g1 g2 g3
  obtain ⟨d0, d1, d2, d3, g0, g1, g2, g3, lt5⟩ := (y0.later h3).later h4
  go_wp2
  simp [bodyPost, results, Tryz.results154, go_sem, d0, d1, d2, d3]
  exact Bl.set4 ((wW2.trans h3).trans h4) (Nat.le_refl _) _ _ _ _
attribute [local go_sem] Oper.semAt_some
set_option maxRecDepth 100000 in
set_option maxHeartbeats 2000000 in
theorem hLessN (vw vv : Value) (ws vs : List En) (q : En) (w : World) (hw : Rq 4 cellsN w vw ws) (hv : Rw 4 cellsN w vv vs) (hl : ws.length ≤ 1000000) (hm : vs.length ≤ 1000000) :
  Calls Tryz.prog 155 #[vw, vv, enV q] w fun e w' => ∃ u, e = .returned u ∧ Rw 4 cellsN w' u (lessH kdN ws vs q) ∧ Bl w w' := by
 have fm : Tryz.prog.follows .mixedOrders = true := by kernel_rfl
 have egA := enters_of Tryz.func202 (by kernel_rfl) rfl
 have egD := enters_of Tryz.func203 (by kernel_rfl) rfl
 have HL := hideP (show lessH kdN ws vs q = List.zipWith subE ws (vs.map fun x => mulE x (divE (addE (dotN ws vs) (dotN ws vs)) q)) from rfl)
 obtain ⟨W, hW⟩ : ∃ W, W = w.alloc (.cells #[.int .i64 q.v, .int .i64 q.l, .int .i64 q.h, .bool q.bad] 52) := ⟨_, rfl⟩
 have b0 : Bl w W := by rw [hW]; exact (Bl.refl _).alloc _
 have kq : Box W w.heap.size q := by rw [hW]; exact Box.new w q 52
 have DOT := hideP (fun u (hu : Bl w u) => vDotN vw vv ws vs u (hw.later hu) (hv.q.later hu) hl hm)
 obtain ⟨d, hd⟩ : ∃ d, d = dotN ws vs := ⟨_, rfl⟩
 rw [← hd] at DOT HL
 obtain ⟨s, hs⟩ : ∃ s, s = addE d d := ⟨_, rfl⟩
 have ADD := hideP (fun u => by have := eadd_any d d u; rw [← hs] at this; exact this)
 rw [← hs] at HL
 obtain ⟨t, ht⟩ : ∃ t, t = divE s q := ⟨_, rfl⟩
 have DIV := hideP (fun u => by have := ediv_any s q u; rw [← ht] at this; exact this)
 rw [← ht] at HL
 have SCL := hideP (fun u (hu : Bl w u) => vScaleN vv vs t u (hv.later hu) hm)
 have HW0 := hideP hw
 have HW := hideP hW
 clear hW hw hv hd hs ht
 go_enter Tryz.func155, Tryz.ntmps155
 go_wp2_with fail
 rw [← HW.out]
 refine (DOT.out _ b0).mono ?_
 rintro e w1 ⟨rfl, h1'⟩
 have h1 : Bl W w1 := h1'
 obtain ⟨W1, hW1⟩ : ∃ W1, W1 = w1.alloc (.cells #[.int .i64 d.v, .int .i64 d.l, .int .i64 d.h, .bool d.bad] 52) := ⟨_, rfl⟩
 have b1 : Bl w1 W1 := by rw [hW1]; exact (Bl.refl _).alloc _
 have k1 := Box.new w1 d 52
 rw [← hW1] at k1
 have wW1 : Bl w W1 := (b0.trans h1).trans b1
 have HW1 := hideP hW1
 clear hW1 DOT
 go_wp2_with fail
 rw [← HW1.out]
 refine (wpIn_wide (n := 8)).1 (region_q fm [some 11, some 12, some 13, some 14, some 15, some 16, some 17, none] (fun _ => false) 7 (by kernel_rfl) (by rfl)
  (fun j v u => match j with | 0 => v = enV d | 1 => v = .iface 52 (enV d) | 2 => v = enV d | 3 => v = enV s | 4 => v = .iface 52 (enV s) | 5 => v = enV q | 6 => v = enV t | _ => False)
  (fun j v u u' _ h => h) (fun vs u0 u => Box u w1.heap.size t ∧ Bl w u) ?step ?still ?store ?fin)
 case step =>
  intro j o t act u ho hdt hpu hsz hu hfr hin
  have hj : j < 8 := (Array.getElem?_eq_some_iff.1 ho).1
  obtain ⟨c0, c1, c2, c3, f0, f1, f2, f3, ltq⟩ := kq.later (h1.trans (b1.trans hu))
  obtain ⟨d0, d1, d2, d3, g0, g1, g2, g3, ltd⟩ := k1.later hu
  rcases (by omega : j = 0 ∨ j = 1 ∨ j = 2 ∨ j = 3 ∨ j = 4 ∨ j = 5 ∨ j = 6 ∨ j = 7) with rfl | rfl | rfl | rfl | rfl | rfl | rfl | rfl
  ·obtain rfl := Option.some.inj (opYI ho)
   obtain rfl := Option.some.inj hdt
   have i7 : act.eval (.tmp (7 : Nat)) = .pointer (some ⟨w1.heap.size, 0, none⟩) := hfr 7 (by decide)
   exact plain_wp (by intro c h; cases h) (fun _ _ => trivial) (by simp only [execOp, i7, evalC, evalF, evalG]; simp [go_sem, c0, c1, c2, c3, d0, d1, d2, d3]) ⟨_, rfl, rfl, Bl.refl _⟩
  ·obtain rfl := Option.some.inj (opYI ho)
   obtain rfl := Option.some.inj hdt
   have i11 : (act.eval (.tmp (11 : Nat))) = enV d := hin ⟨0, .data⟩ (by simp) rfl 11 rfl
   exact plain_wp (by intro c h; cases h) (fun _ _ => trivial) (by simp only [execOp, i11, evalC, evalF, evalG]; simp [go_sem, c0, c1, c2, c3, d0, d1, d2, d3]) ⟨_, rfl, rfl, Bl.refl _⟩
  ·obtain rfl := Option.some.inj (opYI ho)
   obtain rfl := Option.some.inj hdt
   have i7 : act.eval (.tmp (7 : Nat)) = .pointer (some ⟨w1.heap.size, 0, none⟩) := hfr 7 (by decide)
   exact plain_wp (by intro c h; cases h) (fun _ _ => trivial) (by simp only [execOp, i7, evalC, evalF, evalG]; simp [go_sem, c0, c1, c2, c3, d0, d1, d2, d3]) ⟨_, rfl, rfl, Bl.refl _⟩
  ·obtain rfl := Option.some.inj (opYI ho)
   obtain rfl := Option.some.inj hdt
   have i12 : (act.eval (.tmp (12 : Nat))) = .iface 52 (enV d) := hin ⟨1, .data⟩ (by simp) rfl 12 rfl
   have i13 : (act.eval (.tmp (13 : Nat))) = enV d := hin ⟨2, .data⟩ (by simp) rfl 13 rfl
   have iv := Tryz.hAddN
   refine enter_wp 202 #[enV d, enV d] (by intro c h; cases h) (fun _ _ => trivial) (by simp only [execOp, evalC, evalF, evalG, resolve, i12, i13, List.map_toArray, List.map_cons, List.map_nil]; simp [invoke, iv, egA, Result.andThen, go_sem]) (by intro h; cases h) (callsIn_wide.2 (ADD.out u)) ?_
   rintro e w' ⟨rfl, hb⟩
   exact ⟨_, rfl, _, rfl, rfl, hb⟩
  ·obtain rfl := Option.some.inj (opYI ho)
   obtain rfl := Option.some.inj hdt
   have i14 : (act.eval (.tmp (14 : Nat))) = enV s := hin ⟨3, .data⟩ (by simp) rfl 14 rfl
   exact plain_wp (by intro c h; cases h) (fun _ _ => trivial) (by simp only [execOp, i14, evalC, evalF, evalG]; simp [go_sem, c0, c1, c2, c3, d0, d1, d2, d3]) ⟨_, rfl, rfl, Bl.refl _⟩
  ·obtain rfl := Option.some.inj (opYI ho)
   obtain rfl := Option.some.inj hdt
   have i5 : act.eval (.tmp (5 : Nat)) = .pointer (some ⟨w.heap.size, 0, none⟩) := hfr 5 (by decide)
   exact plain_wp (by intro c h; cases h) (fun _ _ => trivial) (by simp only [execOp, i5, evalC, evalF, evalG]; simp [go_sem, c0, c1, c2, c3, d0, d1, d2, d3]) ⟨_, rfl, rfl, Bl.refl _⟩
  ·obtain rfl := Option.some.inj (opYI ho)
   obtain rfl := Option.some.inj hdt
   have i15 : (act.eval (.tmp (15 : Nat))) = .iface 52 (enV s) := hin ⟨4, .data⟩ (by simp) rfl 15 rfl
   have i16 : (act.eval (.tmp (16 : Nat))) = enV q := hin ⟨5, .data⟩ (by simp) rfl 16 rfl
   have iv := Tryz.mDivN
   refine enter_wp 203 #[enV s, enV q] (by intro c h; cases h) (fun _ _ => trivial) (by simp only [execOp, evalC, evalF, evalG, resolve, i15, i16, List.map_toArray, List.map_cons, List.map_nil]; simp [invoke, iv, egD, Result.andThen, go_sem]) (by intro h; cases h) (callsIn_wide.2 (DIV.out u)) ?_
   rintro e w' ⟨rfl, hb⟩
   exact ⟨_, rfl, _, rfl, rfl, hb⟩
  ·obtain rfl := Option.some.inj (opYI ho)
   cases hdt
 case still =>
  intro j o t act u0 u ho hdt hpu
  cases hpu
 case store =>
  intro o act u vs ho hsz hu hfr hin
  obtain rfl := Option.some.inj (opYI ho)
  have i7 : act.eval (.tmp (7 : Nat)) = .pointer (some ⟨w1.heap.size, 0, none⟩) := hfr 7 (by decide)
  obtain ⟨i17, k17⟩ : act.eval (.tmp (17 : Nat)) = vs 6 ∧ ((vs 6) = enV t) := hin 6 17 rfl rfl
  rw [k17] at i17
  obtain ⟨c0, c1, c2, c3, f0, f1, f2, f3, ltb⟩ := k1.later hu
  exact skip_wp (by intro c h; cases h) (fun _ _ => trivial) (by simp only [execOp, i7, i17]; simp [go_sem, c0, c1, c2, c3, f0, f1, f2, f3]) ⟨rfl, (k1.later hu).fill _, Bl.set4 (wW1.trans hu) (by have := (b0.trans h1).size; omega) _ _ _ _⟩
 case fin =>
  intro vs vb u0 u hu hin hps
  have a0 := hin 0 11 rfl
  have a1 := hin 1 12 rfl
  have a2 := hin 2 13 rfl
  have a3 := hin 3 14 rfl
  have a4 := hin 4 15 rfl
  have a5 := hin 5 16 rfl
  have a6 := hin 6 17 rfl
  simp only [putL, Act.put, List.setIfInBounds_toArray, List.set_cons_zero, List.set_cons_succ, Nat.zero_add, Nat.reduceAdd, Nat.reduceBEq, Bool.or_false, Bool.or_true, Bool.false_or, Bool.true_or, Bool.false_eq_true, if_false, if_true, reduceIte, Nat.reduceEqDiff, beq_self_eq_true, Bool.or_self] at a0 a1 a2 a3 a4 a5 a6 ⊢
  rw [if_pos (by decide)] at hps
  simp only [a0, a1, a2, a3, a4, a5, a6]
  obtain ⟨bt, hbt⟩ := hps
  obtain ⟨c0, c1, c2, c3, f0, f1, f2, f3, ltb⟩ := bt
  go_wp2_with fail
  refine (SCL.out _ hbt).mono ?_
  rintro e w2 ⟨u2, rfl, hs2, h2⟩
  have HS2 := hideP hs2
  clear hs2 c0 c1 c2 c3 f0 f1 f2 f3
  go_wp2_with fail
  refine (vSubN _ _ ws _ _ (HW0.out.later (hbt.trans h2)) HS2.out.q hl (by rw [List.length_map]; exact hm)).mono ?_
  rintro e w3 ⟨u3, rfl, hs3, h3⟩
  have HS3 := hideP hs3
  clear hs3
  go_wp2
  go_ret
  exact ⟨_, rfl, by rw [HL.out]; exact HS3.out, (hbt.trans h2).trans h3⟩
attribute [local go_sem] Oper.semAt_some
theorem Box.but {w w' : World} {b : Nat} {x : En} {S : Nat → Prop} (h : Box w b x) (k : But S w w') (hs : ¬ S b) : Box w' b x := by
 obtain ⟨c0, c1, c2, c3, f0, f1, f2, f3, lt⟩ := h
 refine ⟨(k.cell _ _ lt hs).trans c0, (k.cell _ _ lt hs).trans c1, (k.cell _ _ lt hs).trans c2, (k.cell _ _ lt hs).trans c3, (k.froz _ _ lt hs).trans f0, (k.froz _ _ lt hs).trans f1, (k.froz _ _ lt hs).trans f2, (k.froz _ _ lt hs).trans f3, Nat.lt_of_lt_of_le lt k.size⟩
theorem Box.setc {w : World} {b g : Nat} {x : En} (h : Box w b x) (hne : b ≠ g) (vs : List Value) (o : Nat) : Box (w.setCells g o vs) b x :=
 h.but (S := fun i => i = g) (but_setCells (S := fun i => i = g) (b := g) rfl vs o w w (But.refl _ _)) hne
theorem Tryz.restN (b n cap lo : Nat) (w : World) (h1 : lo ≤ n) (h3 : n ≤ cap) (h4 : lo < cap) : (Instr.sliceAt 46 (.slice (some ⟨b, 0, none⟩) n cap) (some (.int .i64 lo)) none none).run Tryz.prog w = .ok (.slice (some ⟨b, lo * 4, none⟩) (n - lo) (cap - lo)) w := by
 have hu : Tryz.prog.underlying 46 = some (.slice (Tryz.prog.elem 46)) := by kernel_rfl
 obtain ⟨i0, hi0, hz0, hz1, hz2⟩ := info_parts Tryz.info_N
 have he : Tryz.prog.elem 46 = 52 := by kernel_rfl
 rw [run_sliceAt_slice (h := hu), run_slice_l (ht := hu) (h0 := by omega) (h1 := by omega), he]
 have hcm : ¬ cap = lo := by omega
 have hcm' : ¬ cap ≤ lo := by omega
 simp [sizeOf, typeInfo, hi0, sliced, Result.andThen, hz1, hcm, hcm', Addr.add]
 omega
theorem Tryz.info_TN : (Tryz.prog.info? 46).map (fun i => (i.zero, i.size, i.bytes)) = some (some (.slice none 0 0), 1, 24) := by kernel_rfl
theorem Tryz.rowsN (b n cap lo : Nat) (z : Int) (hz : z = lo) (h1 : lo ≤ n) (h3 : n ≤ cap) : ∃ p, (∀ w, (Instr.sliceAt 166 (.slice (some ⟨b, 0, none⟩) n cap) (some (.int .i64 z)) none none).run Tryz.prog w = .ok (.slice p (n - lo) (cap - lo)) w) ∧ (lo < n → p = some ⟨b, lo, none⟩) := by
 subst hz
 have hu : Tryz.prog.underlying 166 = some (.slice (Tryz.prog.elem 166)) := by kernel_rfl
 obtain ⟨i0, hi0, hz0, hz1, hz2⟩ := info_parts Tryz.info_TN
 have he : Tryz.prog.elem 166 = 46 := by kernel_rfl
 by_cases hc : lo < cap
 ·refine ⟨some ⟨b, lo, none⟩, fun w => ?_, fun _ => rfl⟩
  rw [run_sliceAt_slice (h := hu), run_slice_l (ht := hu) (h0 := by omega) (h1 := by omega), he]
  have hcm : ¬ cap = lo := by omega
  have hcm' : ¬ cap ≤ lo := by omega
  simp [sizeOf, typeInfo, hi0, sliced, Result.andThen, hz1, hcm, hcm', Addr.add]
  omega
 ·refine ⟨some ⟨b, 0, none⟩, fun w => ?_, fun h => by omega⟩
  rw [run_sliceAt_slice (h := hu), run_slice_l (ht := hu) (h0 := by omega) (h1 := by omega), he]
  have hcm : cap = lo := by omega
  have hcm' : cap ≤ lo := by omega
  simp [sizeOf, typeInfo, hi0, sliced, Result.andThen, hz1, hcm, Addr.add]
theorem Tryz.sizeN : (Tryz.prog.info? 52).map (·.size) = some 4 := by kernel_rfl
set_option maxRecDepth 100000 in
set_option maxHeartbeats 4000000 in
theorem hFoldN (H hc : Nat) (B cp : Nat → Nat) (n m k : Nat) (a : Nat → Nat → En) (w : World) (h : Tbl 4 cellsN w H B cp n m a) (hk : k < n) (hnm : n ≤ m) (hm : m ≤ 1000) (hcap : n ≤ hc) :
  Calls Tryz.prog 136 #[.slice (some ⟨H, 0, none⟩) n hc, .int .i64 k] w fun e w' => (∃ v, e = .returned v) ∧ Tbl 4 cellsN w' H B cp n m (foldStep kdN m k (lowN (a k k)) a) ∧ But (InT B n) w w' := by
 have fm : Tryz.prog.follows .mixedOrders = true := by kernel_rfl
 have egS := enters_of Tryz.func208 (by kernel_rfl) rfl
 have SZ := hideP Tryz.sizeN
 obtain ⟨i0, hi, hz0, hz1, hz2⟩ := info_parts Tryz.info_N
 obtain ⟨j0, hji, jz0, jz1, jz2⟩ := info_parts Tryz.info_I
 have hkm : k ≤ m := by omega
 have hb := h.blt k hk
 have hdr := h.hdr k hk
 have hck := h.cap k hk
 have XC0 := h.cells k k hk (by omega)
 have hpart := h.part (i := k) (k := k) hk hkm
 obtain ⟨b, hbe⟩ : ∃ b, b = B k := ⟨_, rfl⟩
 obtain ⟨ck, hce⟩ : ∃ ck, ck = cp k := ⟨_, rfl⟩
 rw [← hbe] at hb hdr hpart XC0
 rw [← hce] at hdr hck hpart
 obtain ⟨l, hl⟩ : ∃ l, l = m - k := ⟨_, rfl⟩
 obtain ⟨cx, hcx⟩ : ∃ cx, cx = ck - k := ⟨_, rfl⟩
 have hl1 : 0 < l := by omega
 have hl2 : l ≤ 1000 := by omega
 have hlc : l ≤ cx := by omega
 have sl := fun u => Tryz.restN b m ck k u hkm hck (by omega)
 rw [← hl, ← hcx] at sl hpart
 obtain ⟨pr, spr, hpe⟩ := Tryz.rowsN H n hc (k + 1) ((k : Int) + 1) (by omega) (by omega) hcap
 have HLL := hideP hl
 have HBE := hideP hbe
 obtain ⟨x, hx⟩ : ∃ x, x = a k k := ⟨_, rfl⟩
 obtain ⟨p, hp⟩ : ∃ p, p = pH kdN m k (lowN (a k k)) a := ⟨_, rfl⟩
 obtain ⟨y, hy⟩ : ∃ y, y = subE x p := ⟨_, rfl⟩
 obtain ⟨q, hq⟩ : ∃ q, q = dotN (tailH m k (vH kdN m k (lowN (a k k)) a)) (tailH m k (vH kdN m k (lowN (a k k)) a)) := ⟨_, rfl⟩
 have HQ := hideP hq
 have XT := hideP (tail_consH (a k) (show k < m by omega))
 have VT := hideP (show tailH m k (vH kdN m k (lowN (a k k)) a) = y :: (List.range (m - k - 1)).map fun j => a k (k + 1 + j) by
  rw [tail_consH _ (show k < m by omega)]
  congr 1
  ·unfold vH; rw [if_pos rfl, hy, hx, hp]; rfl
  ·refine List.map_congr_left fun j _ => ?_
   unfold vH; rw [if_neg (by omega)])
 have SUB := hideP (fun u => by have := esub_any x p u; rw [← hy] at this; exact this)
 have AW := hideP (show Calls Tryz.prog 154 #[.slice (some ⟨b, k * 4, none⟩) l cx] w fun e w' => e = .returned (enV p) ∧ Bl w w' from by
  have := hAwayN (.slice (some ⟨b, k * 4, none⟩) l cx) (tailH m k (a k)) (a k k) w hpart (by rw [tail_len]; omega) (by rw [tail_get _ (by omega)]; rfl)
  rw [hp]
  exact this)
 have HP := hideP hp
 have HX := hideP hx
 have XC0' := hideP (show ∀ i u, (cellsN x)[i]? = some u → w.cell? ⟨b, k * 4 + i, none⟩ = some u by rw [hx]; exact XC0)
 have hl0 : (tailH m k (a k)).length = l := by rw [tail_len, hl]
 obtain ⟨cs, hcs⟩ : ∃ cs, cs = (tailH m k (a k)).flatMap cellsN := ⟨_, rfl⟩
 have hcl : cs.length = l * 4 := by rw [hcs, flat_len cellsN_len, hl0]
 have one : ∀ v ∈ cs, v.oneCell' = true := by rw [hcs]; exact flat_one oneN_cells _
 have SRC := hideP (show ∀ (j : Nat) u, cs[j]? = some u → w.cell? ((⟨b, k * 4, none⟩ : Addr).add j) = some u by
  rw [hcs]
  rcases hpart with ⟨_, _, _, e, _⟩ | ⟨b', o', c', e, _, _, hx⟩
  ·rw [e] at hl0; simp at hl0; omega
  ·simp only [Value.slice.injEq, Option.some.injEq, Addr.mk.injEq] at e
   obtain ⟨⟨rfl, rfl, _⟩, _, _⟩ := e
   exact flat_cells cellsN_len hx)
 have HCS := hideP hcs
 have HH := hideP h
 clear h hl hcx hbe hce hx hp hy hq XC0 hpart hcs hl0
 go_enter Tryz.func136, Tryz.ntmps136
 go_wp2_with fail
 refine AW.out.mono ?_
 rintro e w1 ⟨rfl, h1⟩
 obtain ⟨W1, hW1⟩ : ∃ W1, W1 = w1.alloc (.cells #[.int .i64 p.v, .int .i64 p.l, .int .i64 p.h, .bool p.bad] 52) := ⟨_, rfl⟩
 have b1 : Bl w1 W1 := by rw [hW1]; exact (Bl.refl _).alloc _
 have k1 := Box.new w1 p 52
 rw [← hW1] at k1
 have hs1 : W1.heap.size = w1.heap.size + 1 := by rw [hW1]; simp
 have wW1 : Bl w W1 := h1.trans b1
 have HW1 := hideP hW1
 clear hW1 AW hdr
 go_wp2_with (first | (at_make; rw [← HW1.out]; refine wpList_make_full _ rfl _ _ 46 rfl W1.heap.size 52 i0 (.agg #[.int .i64 0, .int .i64 0, .int .i64 0, .bool false]) 4 Tryz.underlying46 hi hz0 hz1 .i64 .i64 _ _ l rfl rfl (by simp) (by simp) (by rw [hz2]; omega) (by unfold maxLen; omega) (Nat.le_refl _) ?_; intro w2 hown2 hgrow2; obtain ⟨g, hgz⟩ : ∃ g, g = W1.heap.size := ⟨_, rfl⟩; rw [← hgz] at hown2 ⊢; have HG := hideP hgz; clear hgz; have h2 : Bl W1 w2 := ⟨hgrow2.os, hgrow2.tape, hgrow2.output, hgrow2.size, fun k hk => hgrow2.block k hk nofun⟩; have hg2 := (hown2.lt g rfl).2; have CPY := hideP (RwZ.copy cellsN_len hown2 (xs := tailH m k (a k)) (by rw [tail_len, HLL.out]) hl1); rw [← HCS.out] at CPY; clear hown2 hgrow2) | (show wpList _ _ _ (Oper.mk _ (Op.call { callee := .builtin .copy, args := _, argTypes := _ }) _ _ _ _ :: _) _ _; refine wpList_copy_s rfl _ _ _ _ rfl 52 Tryz.underlying46 4 SZ.out g 0 l l ⟨b, k * 4, none⟩ l cx rfl rfl l cs (Nat.min_self _) hcl (fun j u hu => by have := SRC.out j u hu; have e := add_off (⟨b, k * 4, none⟩ : Addr) j rfl; rw [e] at this ⊢; exact (bl_cell (wW1.trans h2) _ _ hb).trans this) CPY.out.2.1 (fun j _ => CPY.out.2.2 j) one ?_; intro w3 hw3))
 have VR := hideP (show RwZ 4 cellsN w3 w.heap.size (.slice (some ⟨g, 0, none⟩) l l) (tailH m k (a k)) by rw [hw3.out]; have := CPY.out.1; rw [Nat.zero_mul] at this; rw [HG.out] at this ⊢; exact this.base wW1.size)
 have hgw : w.heap.size ≤ g := by rw [HG.out]; exact wW1.size
 have w03 := hideP (show Bl w w3 by rw [hw3.out]; exact bl_setCells (wW1.trans h2) hgw cs 0)
 have hg3 : g < w3.heap.size := by rw [hw3.out, setCells_size]; exact hg2
 have hb3 : b < w3.heap.size := Nat.lt_of_lt_of_le hb w03.out.size
 have kp3 : Box w3 w1.heap.size p := by rw [hw3.out]; exact (k1.later h2).setc (by rw [HG.out]; omega) _ _
 have XC := hideP (show ∀ i u, (cellsN x)[i]? = some u → w3.cell? ⟨b, k * 4 + i, none⟩ = some u from fun i u hu => (bl_cell w03.out _ _ hb).trans (XC0'.out i u hu))
 have GC := hideP (show ∀ i u, (cellsN x)[i]? = some u → w3.cell? ⟨g, i, none⟩ = some u from fun i u hu => by
  obtain ⟨g', c', e, _, _, _, _, hx⟩ := VR.out
  cases e
  have := hx 0 (a k k) (by rw [tail_get _ (by rw [← HLL.out]; exact hl1)]; rfl) i u (by rw [← HX.out]; exact hu)
  rwa [Nat.zero_mul, Nat.zero_add] at this)
 have GF := hideP (show ∀ i, w3.frozen? ⟨g, i, none⟩ = false from fun i => by
  obtain ⟨g', c', e, _, _, _, hf, _⟩ := VR.out
  cases e
  exact hf i)
 have GI := hideP (show ¬ InT B n g from by
  rintro ⟨i, hi', e⟩
  have := HH.out.blt i hi'
  omega)
 clear CPY hw3 SRC k1
 refine (wpIn_wide (n := 8)).1 (region_q fm [some 25, some 26, some 27, some 28, some 29, some 30, some 31, some 32, none] (fun _ => false) 8 (by kernel_rfl) (by rfl)
  (fun j v u => match j with | 0 => v = .slice (some ⟨g, 0, none⟩) l l | 1 => v = .slice (some ⟨b, k * 4, none⟩) l cx | 2 => v = .pointer (some ⟨b, k * 4, none⟩) | 3 => v = enV x | 4 => v = .iface 52 (enV x) | 5 => v = enV p | 6 => v = enV y | 7 => v = .pointer (some ⟨g, 0, none⟩) | _ => False)
  (fun j v u u' _ h => h) (fun vs u0 u => u = u0.setCells g 0 (cellsN y)) ?step ?still ?store ?fin)
 case step =>
  intro j o t act u ho hdt hpu hsz hu hfr hin
  have hj : j < 9 := (Array.getElem?_eq_some_iff.1 ho).1
  obtain ⟨c0, c1, c2, c3, f0, f1, f2, f3, ltp⟩ := kp3.later hu
  have x0 : u.cell? ⟨b, k * 4, none⟩ = some (.int .i64 x.v) := (bl_cell hu _ _ hb3).trans (XC.out 0 _ rfl); have x1 : u.cell? ⟨b, k * 4 + 1, none⟩ = some (.int .i64 x.l) := (bl_cell hu _ _ hb3).trans (XC.out 1 _ rfl); have x2 : u.cell? ⟨b, k * 4 + 2, none⟩ = some (.int .i64 x.h) := (bl_cell hu _ _ hb3).trans (XC.out 2 _ rfl); have x3 : u.cell? ⟨b, k * 4 + 3, none⟩ = some (.bool x.bad) := (bl_cell hu _ _ hb3).trans (XC.out 3 _ rfl)
  rcases (by omega : j = 0 ∨ j = 1 ∨ j = 2 ∨ j = 3 ∨ j = 4 ∨ j = 5 ∨ j = 6 ∨ j = 7 ∨ j = 8) with rfl | rfl | rfl | rfl | rfl | rfl | rfl | rfl | rfl
  ·obtain rfl := Option.some.inj (opYI ho)
   obtain rfl := Option.some.inj hdt
   have i6 : act.eval (.tmp (6 : Nat)) = .slice (some ⟨g, 0, none⟩) l l := hfr 6 (by decide)
   exact plain_wp (by intro c h; cases h) (fun _ _ => trivial) (by simp only [execOp, i6, evalC, evalF, evalG]; simp [go_sem]) ⟨_, rfl, rfl, Bl.refl _⟩
  ·obtain rfl := Option.some.inj (opYI ho)
   obtain rfl := Option.some.inj hdt
   have i4 : act.eval (.tmp (4 : Nat)) = .slice (some ⟨b, k * 4, none⟩) l cx := hfr 4 (by decide)
   exact plain_wp (by intro c h; cases h) (fun _ _ => trivial) (by simp only [execOp, i4, evalC, evalF, evalG]; simp [go_sem]) ⟨_, rfl, rfl, Bl.refl _⟩
  ·obtain rfl := Option.some.inj (opYI ho)
   obtain rfl := Option.some.inj hdt
   have i26 : (act.eval (.tmp (26 : Nat))) = .slice (some ⟨b, k * 4, none⟩) l cx := hin ⟨1, .data⟩ (by simp) rfl 26 rfl
   exact plain_wp (by intro c h; cases h) (fun _ _ => trivial) (by simp only [execOp, i26, evalC, evalF, evalG]; simp [go_sem, c0, c1, c2, c3, x0, x1, x2, x3, hl1]) ⟨_, rfl, rfl, Bl.refl _⟩
  ·obtain rfl := Option.some.inj (opYI ho)
   obtain rfl := Option.some.inj hdt
   have i27 : (act.eval (.tmp (27 : Nat))) = .pointer (some ⟨b, k * 4, none⟩) := hin ⟨2, .data⟩ (by simp) rfl 27 rfl
   exact plain_wp (by intro c h; cases h) (fun _ _ => trivial) (by simp only [execOp, i27, evalC, evalF, evalG]; simp [go_sem, c0, c1, c2, c3, x0, x1, x2, x3, hl1]) ⟨_, rfl, rfl, Bl.refl _⟩
  ·obtain rfl := Option.some.inj (opYI ho)
   obtain rfl := Option.some.inj hdt
   have i28 : (act.eval (.tmp (28 : Nat))) = enV x := hin ⟨3, .data⟩ (by simp) rfl 28 rfl
   exact plain_wp (by intro c h; cases h) (fun _ _ => trivial) (by simp only [execOp, i28, evalC, evalF, evalG]; simp [go_sem, c0, c1, c2, c3, x0, x1, x2, x3, hl1]) ⟨_, rfl, rfl, Bl.refl _⟩
  ·obtain rfl := Option.some.inj (opYI ho)
   obtain rfl := Option.some.inj hdt
   have i5 : act.eval (.tmp (5 : Nat)) = .pointer (some ⟨w1.heap.size, 0, none⟩) := hfr 5 (by decide)
   exact plain_wp (by intro c h; cases h) (fun _ _ => trivial) (by simp only [execOp, i5, evalC, evalF, evalG]; simp [go_sem, c0, c1, c2, c3, x0, x1, x2, x3, hl1]) ⟨_, rfl, rfl, Bl.refl _⟩
  ·obtain rfl := Option.some.inj (opYI ho)
   obtain rfl := Option.some.inj hdt
   have i29 : (act.eval (.tmp (29 : Nat))) = .iface 52 (enV x) := hin ⟨4, .data⟩ (by simp) rfl 29 rfl
   have i30 : (act.eval (.tmp (30 : Nat))) = enV p := hin ⟨5, .data⟩ (by simp) rfl 30 rfl
   have iv := Tryz.mSubN
   refine enter_wp 208 #[enV x, enV p] (by intro c h; cases h) (fun _ _ => trivial) (by simp only [execOp, evalC, evalF, evalG, resolve, i29, i30, List.map_toArray, List.map_cons, List.map_nil]; simp [invoke, iv, egS, Result.andThen, go_sem]) (by intro h; cases h) (callsIn_wide.2 (SUB.out u)) ?_
   rintro e w' ⟨rfl, hb⟩
   exact ⟨_, rfl, _, rfl, rfl, hb⟩
  ·obtain rfl := Option.some.inj (opYI ho)
   obtain rfl := Option.some.inj hdt
   have i25 : (act.eval (.tmp (25 : Nat))) = .slice (some ⟨g, 0, none⟩) l l := hin ⟨0, .data⟩ (by simp) rfl 25 rfl
   exact plain_wp (by intro c h; cases h) (fun _ _ => trivial) (by simp only [execOp, i25, evalC, evalF, evalG]; simp [go_sem, c0, c1, c2, c3, x0, x1, x2, x3, hl1]) ⟨_, rfl, rfl, Bl.refl _⟩
  ·obtain rfl := Option.some.inj (opYI ho)
   cases hdt
 case still =>
  intro j o t act u0 u ho hdt hpu
  cases hpu
 case store =>
  intro o act u vs ho hsz hu hfr hin
  obtain rfl := Option.some.inj (opYI ho)
  obtain ⟨i31, k31⟩ : act.eval (.tmp (31 : Nat)) = vs 6 ∧ ((vs 6) = enV y) := hin 6 31 rfl rfl
  obtain ⟨i32, k32⟩ : act.eval (.tmp (32 : Nat)) = vs 7 ∧ ((vs 7) = .pointer (some ⟨g, 0, none⟩)) := hin 7 32 rfl rfl
  rw [k31] at i31
  rw [k32] at i32
  have z0 : u.cell? ⟨g, 0, none⟩ = some (.int .i64 x.v) := (bl_cell hu _ _ hg3).trans (GC.out 0 _ rfl); have e0 : u.frozen? ⟨g, 0, none⟩ = false := (bl_froz hu _ _ hg3).trans (GF.out 0); have z1 : u.cell? ⟨g, 1, none⟩ = some (.int .i64 x.l) := (bl_cell hu _ _ hg3).trans (GC.out 1 _ rfl); have e1 : u.frozen? ⟨g, 1, none⟩ = false := (bl_froz hu _ _ hg3).trans (GF.out 1); have z2 : u.cell? ⟨g, 2, none⟩ = some (.int .i64 x.h) := (bl_cell hu _ _ hg3).trans (GC.out 2 _ rfl); have e2 : u.frozen? ⟨g, 2, none⟩ = false := (bl_froz hu _ _ hg3).trans (GF.out 2); have z3 : u.cell? ⟨g, 3, none⟩ = some (.bool x.bad) := (bl_cell hu _ _ hg3).trans (GC.out 3 _ rfl); have e3 : u.frozen? ⟨g, 3, none⟩ = false := (bl_froz hu _ _ hg3).trans (GF.out 3)
  exact skip_wp (by intro c h; cases h) (fun _ _ => trivial) (by simp only [execOp, i31, i32]; simp [go_sem, z0, e0, z1, e1, z2, e2, z3, e3]; rfl) ⟨rfl, rfl⟩
 case fin =>
  intro vs vb u0 u hu hin hps
  have a0 := hin 0 25 rfl
  have a1 := hin 1 26 rfl
  have a2 := hin 2 27 rfl
  have a3 := hin 3 28 rfl
  have a4 := hin 4 29 rfl
  have a5 := hin 5 30 rfl
  have a6 := hin 6 31 rfl
  have a7 := hin 7 32 rfl
  simp only [putL, Act.put, List.setIfInBounds_toArray, List.set_cons_zero, List.set_cons_succ, Nat.zero_add, Nat.reduceAdd, Nat.reduceBEq, Bool.or_false, Bool.or_true, Bool.false_or, Bool.true_or, Bool.false_eq_true, if_false, if_true, reduceIte, Nat.reduceEqDiff, beq_self_eq_true, Bool.or_self] at a0 a1 a2 a3 a4 a5 a6 a7 ⊢
  rw [if_pos (by decide)] at hps
  simp only [a0, a1, a2, a3, a4, a5, a6, a7]
  have hb0u : But (InT B n) w u0 := (But.of_bl (w03.out)).trans (But.of_bl hu)
  have hgu := Nat.lt_of_lt_of_le hg3 hu.size
  have hu' : Bl w u := by rw [hps]; exact bl_setCells (w03.out.trans hu) hgw (cellsN y) 0
  have TB5 := hideP (HH.out.later hu')
  have kp5 : Box u w1.heap.size p := by rw [hps]; exact (kp3.later hu).setc (by have := HG.out; omega) _ _
  have VR5 := hideP (show RwZ 4 cellsN u w.heap.size (.slice (some ⟨g, 0, none⟩) l l) (tailH m k (vH kdN m k (lowN (a k k)) a)) by
   rw [hps, VT.out]
   have q := VR.out.later hu
   rw [XT.out] at q
   exact (RwZ.put0 cellsN_len q).base (Nat.le_refl _))
  clear hps hb0u
  have DOT := hideP (fun w' (hh : Bl u w') => by have := vDotN (.slice (some ⟨g, 0, none⟩) l l) (.slice (some ⟨g, 0, none⟩) l l) _ _ w' (VR5.out.rw.later hh).q (VR5.out.rw.later hh).q (by rw [tail_len]; omega) (by rw [tail_len]; omega); rw [← HQ.out] at this; exact this)
  clear XC GC GF VR
  go_wp2_with fail
  refine (DOT.out _ (Bl.refl _)).mono ?_
  rintro e w6 ⟨rfl, h6⟩
  obtain ⟨W6, hW6⟩ : ∃ W6, W6 = w6.alloc (.cells #[.int .i64 q.v, .int .i64 q.l, .int .i64 q.h, .bool q.bad] 52) := ⟨_, rfl⟩
  have b6 : Bl w6 W6 := by rw [hW6]; exact (Bl.refl _).alloc _
  have k6 := Box.new w6 q 52
  rw [← hW6] at k6
  have h6u : Bl u W6 := h6.trans b6
  have HW6 := hideP hW6
  clear hW6 DOT
  have PI := hideP (show ¬ InT B n w1.heap.size from by
   rintro ⟨i, hi', e⟩
   have := HH.out.blt i hi'
   have := h1.size
   omega)
  have QI := hideP (show ¬ InT B n w6.heap.size from by
   rintro ⟨i, hi', e⟩
   have := HH.out.blt i hi'
   have := (hu'.trans h6).size
   omega)
  have kp6 := kp5.later h6u
  have hg6 : g < W6.heap.size := Nat.lt_of_lt_of_le VR5.out.glt h6u.size
  have TB6 := hideP (TB5.out.later h6u)
  have VR6 := hideP (VR5.out.later h6u)
  have wW6 : Bl w W6 := hu'.trans h6u
  clear TB5 VR5 kp5
  go_wp2_with fail
  rw [← HW6.out]
  go_loopw [41] (fun v wr => ∃ j : Nat, v = .int .i64 j ∧ j ≤ n - (k + 1) ∧ Tbl 4 cellsN wr H B cp n m (partH k j (foldStep kdN m k (lowN (a k k)) a) a) ∧ But (InT B n) W6 wr) (fun v _ => n - (intOf v).toNat)
  case atStart => exact ⟨0, rfl, Nat.zero_le _, by rw [partH_zero]; exact TB6.out, But.refl _ _⟩
  case round =>
   obtain ⟨j, rfl, hj, tb, bt⟩ := hrel
   have TB := hideP tb
   clear tb
   by_cases hlt : j < n - (k + 1)
   ·have hk1 : k + 1 < n := by omega
    have hin : k + 1 + j < n := by omega
    have pe := hpe hk1
    subst pe
    obtain ⟨bi, hbi⟩ : ∃ bi, bi = B (k + 1 + j) := ⟨_, rfl⟩
    obtain ⟨ci, hci⟩ : ∃ ci, ci = cp (k + 1 + j) := ⟨_, rfl⟩
    have hdr := TB.out.hdr (k + 1 + j) hin
    have hcapi := TB.out.cap (k + 1 + j) hin
    have hpart := TB.out.part hin hkm
    have eqr : partH k j (foldStep kdN m k (lowN (a k k)) a) a (k + 1 + j) = a (k + 1 + j) := by
     funext c
     unfold partH
     rw [if_neg (by omega)]
    rw [eqr] at hpart
    rw [← hbi, ← hci] at hdr hpart
    rw [← hci] at hcapi
    rw [← HLL.out] at hpart
    have sl := fun u => Tryz.restN bi m ci k u hkm hcapi (by omega)
    rw [← HLL.out] at sl
    have LESS := hideP (hLessN (.slice (some ⟨bi, k * 4, none⟩) l (ci - k)) (.slice (some ⟨g, 0, none⟩) l l) (tailH m k (a (k + 1 + j))) (tailH m k (vH kdN m k (lowN (a k k)) a)) q wr hpart (VR6.out.but bt (fun g' hg' => by cases hg'; exact GI.out)).rw (by rw [tail_len]; omega) (by rw [tail_len]; omega))
    rw [show lessH kdN (tailH m k (a (k + 1 + j))) (tailH m k (vH kdN m k (lowN (a k k)) a)) q = tailH m k (foldStep kdN m k (lowN (a k k)) a (k + 1 + j)) by rw [HQ.out]; exact less_get kdN m k _ a _ (by omega)] at LESS
    have HBI := hideP hbi
    have HCI := hideP hci
    obtain ⟨d0, d1, d2, d3, g0, g1, g2, g3, ltq⟩ := k6.but bt QI.out
    clear hbi hci eqr hpart
    go_wp2_with fail
    refine LESS.out.mono ?_
    rintro e w7 ⟨u7, rfl, hr7, h7⟩
    obtain ⟨p7, c7, rfl, hcc7, _⟩ := hr7.cut
    have hl7 : (tailH m k (foldStep kdN m k (lowN (a k k)) a (k + 1 + j))).length = l := by rw [tail_len, HLL.out]
    rw [hl7] at hr7 hcc7 ⊢
    obtain ⟨b7, o7, rfl, hx7⟩ : ∃ b7 o7, p7 = some ⟨b7, o7, none⟩ ∧ ∀ t u, ((tailH m k (foldStep kdN m k (lowN (a k k)) a (k + 1 + j))).flatMap cellsN)[t]? = some u → w7.cell? ((⟨b7, o7, none⟩ : Addr).add t) = some u := by
     rcases hr7 with ⟨e1, e2⟩ | ⟨b7, o7, cap7, e1, _, _, hx⟩
     ·rw [e2] at hl7; simp at hl7; omega
     ·cases e1
      exact ⟨b7, o7, rfl, flat_cells cellsN_len hx⟩
    obtain ⟨cs7, hcs7⟩ : ∃ cs7, cs7 = (tailH m k (foldStep kdN m k (lowN (a k k)) a (k + 1 + j))).flatMap cellsN := ⟨_, rfl⟩
    have tb7 := TB.out.later h7
    have put7 := tb7.put cellsN_len (b := partH k (j + 1) (foldStep kdN m k (lowN (a k k)) a) a) (i := k + 1 + j) (k := k) (xs := tailH m k (foldStep kdN m k (lowN (a k k)) a (k + 1 + j))) hin (by rw [hl7, HLL.out]; omega)
     (fun c hc => by rw [hl7, HLL.out] at hc; rw [tail_get _ hc]; unfold partH; rw [if_pos (by omega)])
     (fun i' c hi' hc hne => by
      rw [hl7, HLL.out] at hne
      unfold partH
      by_cases h1 : k < i' ∧ i' ≤ k + j
      ·rw [if_pos h1, if_pos (by omega)]
      ·rw [if_neg h1]
       by_cases h2 : k < i' ∧ i' ≤ k + (j + 1)
       ·rw [if_pos h2]
        have : i' = k + 1 + j := by omega
        subst this
        unfold foldStep
        rw [if_neg (by omega), if_neg (by omega)]
       ·rw [if_neg h2])
    have sm7 := tb7.somes cellsN_len (i := k + 1 + j) (k := k) (xs := tailH m k (foldStep kdN m k (lowN (a k k)) a (k + 1 + j))) hin (by rw [hl7, HLL.out]; omega)
    have fz7 := fun o => tb7.froz (k + 1 + j) hin o
    have len7 : cs7.length = l * 4 := by rw [hcs7, flat_len cellsN_len, hl7]
    have one7 : ∀ v ∈ cs7, v.oneCell' = true := by rw [hcs7]; exact flat_one oneN_cells _
    rw [← hcs7] at put7 sm7 hx7
    rw [← HBI.out] at put7 sm7 fz7
    have PUT7 := hideP put7
    have SM7 := hideP sm7
    have HX7 := hideP hx7
    have bt7 : But (InT B n) W6 w7 := bt.trans (But.of_bl h7)
    clear put7 sm7 hx7 hcs7 hr7 LESS tb7 d0 d1 d2 d3 g0 g1 g2 g3 hdr sl
    go_wp2_with (show wpList _ _ _ (Oper.mk _ (Op.call { callee := .builtin .copy, args := _, argTypes := _ }) _ _ _ _ :: _) _ _; refine wpList_copy_s rfl _ _ _ _ rfl 52 Tryz.underlying46 4 SZ.out bi (k * 4) l (ci - k) ⟨b7, o7, none⟩ l c7 rfl rfl l cs7 (Nat.min_self _) len7 HX7.out SM7.out (fun j _ => fz7 _) one7 ?_; intro w8 hw8)
    have TB8 := hideP (show Tbl 4 cellsN w8 H B cp n m (partH k (j + 1) (foldStep kdN m k (lowN (a k k)) a) a) by rw [hw8.out]; exact PUT7.out.1)
    have bt8 : But (InT B n) W6 w8 := bt7.trans (by rw [hw8.out]; exact PUT7.out.2)
    clear hw8 PUT7 SM7 HX7 fz7
    go_wp2
    go_roundw
    case rel => exact ⟨j + 1, by simp, hlt, TB8.out, bt8⟩
    case measure => simp [intOf]; omega
   ·obtain rfl : j = n - (k + 1) := by omega
    have PE := hideP (fun i c => show partH k (n - (k + 1)) (foldStep kdN m k (lowN (a k k)) a) a i c = if k < i ∧ i ≤ k + (n - (k + 1)) then foldStep kdN m k (lowN (a k k)) a i c else a i c from rfl)
    have kpr := kp6.but bt PI.out
    obtain ⟨c0, c1, c2, c3, f0, f1, f2, f3, ltp⟩ := id kpr
    go_wp2_with (at_make; refine wpList_make_full _ rfl _ _ 22 rfl wr.heap.size 3 j0 (.int .i64 0) 1 Tryz.underlying22 hji jz0 jz1 .i64 .i64 _ _ l rfl rfl (by simp) (by simp) (by rw [jz2]; omega) (by unfold maxLen; omega) (Nat.le_refl _) ?_; intro w9 hown9 hgrow9)
    have h9 : Bl wr w9 := ⟨hgrow9.os, hgrow9.tape, hgrow9.output, hgrow9.size, fun k hk => hgrow9.block k hk nofun⟩
    have R9 := hideP (show Rw 1 (fun n : Int => [.int .i64 n]) w9 (.slice (some ⟨wr.heap.size, 0, none⟩) l l) (List.replicate l (0 : Int)) from Rw.of_own (c := cellsI) (fun _ => rfl) (xs := List.replicate l (0 : Int)) (by have := hown9; rw [zeros_made] at this; simpa using this))
    clear hown9 hgrow9 c0 c1 c2 c3 f0 f1 f2 f3
    refine (vWholeN _ (List.replicate l (0 : Int)) _ R9.out.q (by simp; omega)).mono ?_
    rintro e w10 ⟨u10, rfl, hr10, h10⟩
    obtain ⟨p10, c10, rfl, hcc10, _⟩ := hr10.cut
    have hl10 : ((List.replicate l (0 : Int)).map wholeN).length = l := by simp
    rw [hl10] at hr10 hcc10 ⊢
    obtain ⟨b10, o10, rfl, hx10⟩ : ∃ b7 o7, p10 = some ⟨b7, o7, none⟩ ∧ ∀ j u, (((List.replicate l (0 : Int)).map wholeN).flatMap cellsN)[j]? = some u → w10.cell? ((⟨b7, o7, none⟩ : Addr).add j) = some u := by
     rcases hr10 with ⟨e1, e2⟩ | ⟨b7, o7, cap7, e1, _, _, hx⟩
     ·rw [e2] at hl10; simp at hl10; omega
     ·simp only [Value.slice.injEq] at e1
      obtain ⟨rfl, _, _⟩ := e1
      exact ⟨b7, o7, rfl, flat_cells cellsN_len hx⟩
    obtain ⟨cs10, hcs10⟩ : ∃ cs10, cs10 = ((List.replicate l (0 : Int)).map wholeN).flatMap cellsN := ⟨_, rfl⟩
    have tb10 := TB.out.later (h9.trans h10)
    have put10 := tb10.put cellsN_len (b := fun i c => if i = k then (if c < k then a i c else kdN.z) else foldStep kdN m k (lowN (a k k)) a i c) (i := k) (k := k) (xs := (List.replicate l (0 : Int)).map wholeN) hk (by rw [hl10, HLL.out]; omega)
     (fun c hc => by rw [hl10] at hc; rw [if_pos rfl, if_neg (by omega), List.getElem?_map, List.getElem?_replicate, if_pos hc]; rfl)
     (fun i' c hi' hc hne => by
      rw [hl10, HLL.out] at hne
      show (if i' = k then (if c < k then a i' c else kdN.z) else foldStep kdN m k (lowN (a k k)) a i' c) = partH k (n - (k + 1)) (foldStep kdN m k (lowN (a k k)) a) a i' c
      unfold partH
      by_cases h1 : i' = k
      ·subst h1
       rw [if_pos rfl, if_pos (by omega), if_neg (by omega)]
      ·rw [if_neg h1]
       by_cases h2 : k < i'
       ·rw [if_pos (by omega)]
       ·rw [if_neg (by omega)]
        unfold foldStep
        rw [if_neg h1, if_neg (by omega)])
    have sm10 := tb10.somes cellsN_len (i := k) (k := k) (xs := (List.replicate l (0 : Int)).map wholeN) hk (by rw [hl10, HLL.out]; omega)
    have fz10 := fun o => tb10.froz k hk o
    have len10 : cs10.length = l * 4 := by rw [hcs10, flat_len cellsN_len, hl10]
    have one10 : ∀ v ∈ cs10, v.oneCell' = true := by rw [hcs10]; exact flat_one oneN_cells _
    rw [← hcs10] at put10 sm10 hx10
    rw [← HBE.out] at put10 sm10 fz10
    have PUT10 := hideP put10
    have SM10 := hideP sm10
    have HX10 := hideP hx10
    have bt10 : But (InT B n) W6 w10 := bt.trans (But.of_bl (h9.trans h10))
    have kp10 := kpr.later (h9.trans h10)
    clear put10 sm10 hx10 hcs10 hr10 tb10 R9 kpr
    go_wp2_with (show wpList _ _ _ (Oper.mk _ (Op.call { callee := .builtin .copy, args := _, argTypes := _ }) _ _ _ _ :: _) _ _; refine wpList_copy_s rfl _ _ _ _ rfl 52 Tryz.underlying46 4 SZ.out b (k * 4) l cx ⟨b10, o10, none⟩ l c10 rfl rfl l cs10 (Nat.min_self _) len10 HX10.out SM10.out (fun j _ => fz10 _) one10 ?_; intro w11 hw11; have TB11 := hideP (show Tbl 4 cellsN w11 H B cp n m (fun i c => if i = k then (if c < k then a i c else kdN.z) else foldStep kdN m k (lowN (a k k)) a i c) by rw [hw11.out]; exact PUT10.out.1); have bt11 : But (InT B n) W6 w11 := bt10.trans (by rw [hw11.out]; exact PUT10.out.2); have kp11 : Box w11 w1.heap.size p := by { rw [hw11.out]; exact kp10.setc (by rw [HBE.out]; exact fun e => PI.out ⟨k, hk, e⟩) _ _ }; obtain ⟨c0, c1, c2, c3, f0, f1, f2, f3, ltp⟩ := id kp11; obtain ⟨z, hz⟩ : ∃ z, z = kdN.z := ⟨_, rfl⟩; have ZC := hideP (show ∀ i u, (cellsN z)[i]? = some u → w11.cell? ⟨b, k * 4 + i, none⟩ = some u by { intro i u hu; have := TB11.out.cells k k hk (by omega) i u (by rw [if_pos rfl, if_neg (by omega), ← hz]; exact hu); rw [← HBE.out] at this; exact this }); have z0 : w11.cell? ⟨b, k * 4, none⟩ = some (.int .i64 z.v) := ZC.out 0 _ rfl; have e0 : w11.frozen? ⟨b, k * 4, none⟩ = false := by { have := TB11.out.froz k hk (k * 4); rw [← HBE.out] at this; exact this }; have z1 : w11.cell? ⟨b, k * 4 + 1, none⟩ = some (.int .i64 z.l) := ZC.out 1 _ rfl; have e1 : w11.frozen? ⟨b, k * 4 + 1, none⟩ = false := by { have := TB11.out.froz k hk (k * 4 + 1); rw [← HBE.out] at this; exact this }; have z2 : w11.cell? ⟨b, k * 4 + 2, none⟩ = some (.int .i64 z.h) := ZC.out 2 _ rfl; have e2 : w11.frozen? ⟨b, k * 4 + 2, none⟩ = false := by { have := TB11.out.froz k hk (k * 4 + 2); rw [← HBE.out] at this; exact this }; have z3 : w11.cell? ⟨b, k * 4 + 3, none⟩ = some (.bool z.bad) := ZC.out 3 _ rfl; have e3 : w11.frozen? ⟨b, k * 4 + 3, none⟩ = false := by { have := TB11.out.froz k hk (k * 4 + 3); rw [← HBE.out] at this; exact this }; clear hz hw11 PUT10 SM10 HX10 fz10)
    have PUT12 := hideP (TB11.out.put cellsN_len (b := foldStep kdN m k (lowN (a k k)) a) (i := k) (k := k) (xs := [p]) hk (by simp; omega)
     (fun c hc => by
      have : c = 0 := by simpa using hc
      subst this
      rw [Nat.add_zero]
      unfold foldStep
      rw [if_pos rfl, if_pos rfl, HP.out]; rfl)
     (fun i' c hi' hc hne => by
      simp only [List.length_singleton] at hne
      show foldStep kdN m k (lowN (a k k)) a i' c = if i' = k then (if c < k then a i' c else kdN.z) else foldStep kdN m k (lowN (a k k)) a i' c
      by_cases h1 : i' = k
      ·subst h1
       rw [if_pos rfl]
       unfold foldStep
       rw [if_pos rfl]
       by_cases h2 : c < i'
       ·rw [if_pos h2, if_neg (by omega), if_neg (by omega)]
       ·rw [if_neg h2, if_neg (by omega), if_pos (by omega)]
      ·rw [if_neg h1]))
    rw [← HBE.out] at PUT12
    go_end0
    exact ⟨⟨_, rfl⟩, PUT12.out.1, (But.of_bl wW6).trans (bt11.trans PUT12.out.2)⟩
end Go.Proofs.YtljmggemdkfbiaaGreat
namespace Go.Proofs.YtljmggemdkfbiaaGreat
open Go.RowKit
set_option linter.unusedSimpArgs false
set_option linter.unusedVariables false
theorem fresh_ownN {w : World} {B b n : Nat} {e : TypeId} {s : Nat} {v : Value} {l : List Value} (h : w.ownsRow B e s v n l) (hb : b ≤ B) : Fresh b v := fun g hg => Nat.le_trans hb (h.lt g hg).1
end Go.Proofs.YtljmggemdkfbiaaGreat
namespace Go.Proofs.YtljmggemdkfbiaaGreat
open Go.RowKit Go.Shelf
set_option linter.unusedSimpArgs false
set_option linter.unusedVariables false
attribute [local go_sem] Oper.semAt_some
set_option maxRecDepth 100000 in
set_option maxHeartbeats 4000000 in
theorem mApplyN' (R M : Nat) (p : Option Addr) (n cap : Nat) (f : Nat → Nat → En) (q : Option Addr) (cap2 : Nat) (xs : List En) (w : World) (hx : Mx 4 cellsN w R M p n cap f) (hy : Rq 4 cellsN w (.slice q M cap2) xs) (hl : xs.length = M) :
  Calls Tryz.prog 100 #[mV R M p n cap, .slice q M cap2] w fun e w' => ∃ p' cap', e = .returned (.tuple #[.slice p' R cap', .bool true]) ∧ Rw 4 cellsN w' (.slice p' R cap') ((List.range R).map fun i => dotN (rowM M f i) xs) ∧ Fresh w.heap.size (.slice p' R cap') ∧ Bl w w' := by
 obtain ⟨i0, hi, hz0, hz1, hz2⟩ := info_parts Tryz.info_N
 refine (callsIn_wide (n := 8)).1 ?_
 have hfx := hx.fit
 have hdR := hx.1
 have hR16 := hdR.r2
 have hM16 := hdR.c2
 have HXm := hideP hx
 have HYm := hideP hy
 have HL := hideP hl
 clear hx hy hl
 obtain ⟨W, hW⟩ : ∃ W, W = (w.alloc (.cells #[.int .i64 R, .int .i64 M, .slice p n cap] 48)).alloc (.cells #[.slice q M cap2] 46) := ⟨_, rfl⟩
 have b0 : Bl w W := by rw [hW]; exact ((Bl.refl _).alloc _).alloc _
 have mx0 : MBox W w.heap.size R M p n cap := by rw [hW]; exact (MBox.new w _ _ _ _ _ _).later ((Bl.refl _).alloc _)
 have my0 : Boxed W (w.heap.size + 1) 46 (.slice q M cap2) := by rw [hW]; have := Boxed.new (w.alloc (.cells #[.int .i64 R, .int .i64 M, .slice p n cap] 48)) 46 (.slice q M cap2); rw [World.size_alloc] at this; exact this
 have hs0 : W.heap.size = w.heap.size + 1 + 1 := by rw [hW]; simp
 have HW := hideP hW
 clear hW
 refine callsIn_of_wp_marks Tryz.func100 rfl trivial ?_ rfl
 simp only [Tryz.ntmps100, List.size_toArray, List.length_cons, List.length_nil, Nat.reduceAdd, Nat.reduceSub, Array.replicate_succ, Array.replicate_zero, List.push_toArray, List.append_toArray, List.nil_append, List.cons_append]
 gi_wp2_with fail
 rw [← HW.out]
 refine ⟨trivial, ?_⟩
 refine (callsIn_wide.2 (mRightN _ _ _ _ _ _)).mono ?_
 rintro e w5 ⟨rfl, h5⟩
 rw [hfx]
 have mx5 := mx0.later h5
 have my5 := boxed_bl my0 h5
 have bw5 : Bl w w5 := b0.trans h5
 obtain ⟨c0, c1, c2, f0, f1, f2, lt⟩ := id mx5
 have d0 := my5.cell
 gi_wp2_with (gi_at_make; refine wpListIn_make_own _ rfl _ _ 46 rfl w5.heap.size 52 i0 (.agg #[.int .i64 0, .int .i64 0, .int .i64 0, .bool false]) 4 Tryz.underlying46 hi hz0 hz1 .i64 .i64 _ R rfl rfl (by simp) (by rw [hz2]; omega) (by unfold maxLen; omega) (by simp) ?_; intro w6 hown0 hgrow0; have mx6 := mbox_block mx5 (hgrow0.block _ mx5.lt nofun) hgrow0.size; clear c0 c1 c2 f0 f1 f2 d0 lt; obtain ⟨c0, c1, c2, f0, f1, f2, lt⟩ := mx6)
 have h56 : Bl w5 w6 := ⟨hgrow0.os, hgrow0.tape, hgrow0.output, hgrow0.size, fun k hk => hgrow0.block k hk nofun⟩
 have hs6 : w5.heap.size ≤ w6.heap.size := hgrow0.size
 obtain ⟨w6b, hw6b⟩ : ∃ w6b, w6b = w6.alloc (.cells #[.slice (some ⟨w5.heap.size, 0, none⟩) 0 R] 46) := ⟨_, rfl⟩
 have h6b : Bl w6 w6b := by rw [hw6b]; exact (Bl.refl _).alloc _
 have hs6b : w6b.heap.size = w6.heap.size + 1 := by rw [hw6b]; simp
 have bl6 : Boxed w6b w6.heap.size 46 (.slice (some ⟨w5.heap.size, 0, none⟩) 0 R) := by rw [hw6b]; exact Boxed.new w6 _ _
 have hown6 : w6b.ownsRow w5.heap.size 52 4 (.slice (some ⟨w5.heap.size, 0, none⟩) 0 R) 0 [] := own_blN hown0 h6b
 have hlt5 : w5.heap.size < w6b.heap.size := by have := (hown6.lt w5.heap.size rfl).2; exact this
 have HW6 := hideP hw6b
 clear hw6b hown0 hgrow0 c0 c1 c2 f0 f1 f2 lt
 rw [← HW6.out]
 refine ⟨trivial, ?_⟩
 refine (callsIn_wide.2 (mAllN _ _ _ _ _ f _ (HXm.out.later ((bw5.trans h56).trans h6b)))).mono ?_
 rintro e w7 ⟨B2, p2, cap5, rfl, hK7, h7⟩
 have HK7 := hideP hK7
 clear hK7
 have hs7 : w6.heap.size + 1 ≤ w7.heap.size := by have := h7.size; omega
 have b57 : Below w5.heap.size w5 w7 := (h56.trans h6b).trans h7
 have bl7 := boxed_bl bl6 h7
 have own7 := own_blN hown6 h7
 clear bl6 hown6
 gi_wp2_with fail
 refine rangeV rfl (by omega) (gf := 108) (lb := #[.pointer (some ⟨B2, 0, none⟩)]) rfl trivial (enters_of Tryz.func108 (by kernel_rfl) rfl)
  (seqMN 7 B2 _ w7.heap.size R M p2 n cap5 f w7 (Nat.le_refl _) HK7.out) (fun x A B h => h.1) (fun h k => h.trans k) (span_b (Nat.le_refl _)) (fun _ => rfl)
  (fun (pre : List RowX) U => (∃ v, Boxed U w6.heap.size 46 v ∧ U.ownsRow w5.heap.size 52 4 v (pre.map fun x : RowX => dotN (rowM M f x.1) xs).length ((pre.map fun x : RowX => dotN (rowM M f x.1) xs).flatMap cellsN) ∧ (∀ b, v.ownBlock = some b → b < w6b.heap.size ∨ w7.heap.size ≤ b)) ∧ (Below w5.heap.size w5 U ∧ w7.heap.size ≤ U.heap.size))
  (fun _ _ _ => False)
  (OwnFrom.and (Own.from (holdsRow_own w5.heap.size w6.heap.size 46 52 4 (fun pre : List RowX => (pre.map fun x : RowX => dotN (rowM M f x.1) xs).length) (fun pre : List RowX => (pre.map fun x : RowX => dotN (rowM M f x.1) xs).flatMap cellsN) (fun _ v => ∀ b, v.ownBlock = some b → b < w6b.heap.size ∨ w7.heap.size ≤ b)) _) (OwnFrom.and (ownFrom_below (Nat.le_refl _) b57.size) (own_size _ _)))
  (fun _ _ _ _ _ hs _ _ => hs)
  ⟨⟨_, bl7, own7, fun b hb => by cases hb; exact .inl hlt5⟩, b57, Nat.le_refl _⟩
  (fun a x a' U => Rw 4 cellsN U (rowV M x) (rowM M f x.1) ∧ a' = { tmps := (((a.tmps.setIfInBounds 24 (.int .i64 x.1)).setIfInBounds 25 (rowV M x)).setIfInBounds 8 (rowV M x)), defers := [] })
  (fun x a' _ X Y row hs hg hr => ⟨rw_own hs.1 hg (fun r e => (hr r e).2), hs.2⟩)
  ?assign ?body ?done ?stop
 case assign =>
  rintro l pre x W0 U K' _ ⟨hbU, hxR, hrow, hfr, hcc⟩ hI hK'
  have HK2 := hideP hK'
  have HI := hideP hI
  clear hK' hI
  gi_wp2
  exact HK2.out _ _ (KeepsFrom.refl _ _) (Span.refl _ _ _) HI.out ⟨hrow, rfl⟩
 case body =>
  rintro l pre x a' U hl' ⟨r, hr'⟩ ⟨⟨v, hv, hrow, hgv⟩, hbU, hsU⟩ ⟨hrx, rfl⟩ hlt
  simp only [List.setIfInBounds_toArray, List.set_cons_zero, List.set_cons_succ]
  gi_wp2_with fail
  have hbv := boxed_bl (show Boxed w5 _ _ _ from my5) hbU
  have hC := fun u (hu : Bl U u) => vDotN (rowV M x) (.slice q M cap2) (rowM M f x.1) xs u (hrx.later hu).q (HYm.out.later ((bw5.trans hbU).trans hu)) (by rw [rowM_len]; omega) (by rw [HL.out]; omega)
  have hlen2 : (pre.map fun x : RowX => dotN (rowM M f x.1) xs).length ≤ 100000 := by rw [List.length_map]; omega
  refine dotAppendN (ops := _) rfl (by kernel_rfl) 26 6 76 (by simp) (by omega) ⟨rfl, rfl, rfl⟩ ⟨rfl, rfl⟩ ⟨rfl, rfl⟩ ⟨rfl, rfl, rfl⟩ ⟨rfl, rfl, rfl⟩ ⟨rfl, rfl, rfl⟩ ⟨rfl, rfl, rfl⟩ ⟨by simp, by simp⟩ (by simp) ⟨by simp, by simp⟩ (by simp)
   (rowV M x) (.slice q M cap2) (fun act u K' hfr hu hk => move_wp (.tmp 8) rfl (by rw [hfr 8 (by omega)]; exact hk))
   (fun act u K' hfr hu hk => load_wp 46 (.tmp 3) rfl (by rw [hfr 3 (by omega)]; exact Tryz.load1N (w.heap.size + 1) _ u (boxed_bl hbv hu).cell) hk)
   trivial (fun _ => by omega) (enters_of Tryz.func76 (by kernel_rfl) rfl) (dotN (rowM M f x.1) xs)
   (fun u hu => CallsIn.inRound l (callsIn_wide.2 (hC u hu)))
   w6.heap.size rfl v hv w5.heap.size (pre.map fun x : RowX => dotN (rowM M f x.1) xs) hrow hlen2 (by have := b57.size; omega) ?_
  intro act u0 w8 g' cap' k1 k2 k3 k4
  have hvu := boxed_bl hv k1
  have hru := own_blN hrow k1
  have hsu := k1.size
  have hu5 : w5.heap.size ≤ u0.heap.size := by have := b57.size; omega
  obtain ⟨hv5, hv6, hr6, hk6, hb6⟩ := boxed_appended hvu (by decide) hru hu5 (by omega) k3 k2
  have hg8 := k2.size
  refine ⟨(k1.keeps _).trans (hk6.from _), span_appended k1 (by omega) hgv k2 (by omega), ⟨_, hv6, ?_, ?_⟩, ?_, ?_⟩
  ·rw [List.map_append]
   simpa [List.flatMap_append] using hr6
  ·intro b hb
   have hb' : g' = b := by cases hb; rfl
   subst hb'
   rcases k4 with h | h
   ·exact hgv _ h.symm
   ·exact .inr (by omega)
  ·exact hbU.trans ((k1.mono (by have := b57.size; omega)).trans hb6)
  ·simp; omega
 case done =>
  rintro Dm zs U hD hS ⟨⟨v, hv, hrow, _⟩, hb5, hs7'⟩ hKD
  have e : (zs.map fun x : RowX => dotN (rowM M f x.1) xs) = (List.range R).map fun i => dotN (rowM M f i) xs := by rw [← hS, List.map_map]; rfl
  rw [e] at hrow
  have RW := Rw.of_own cellsN_len (ownsRow_putObj hrow (.deferred none) hKD rfl)
  obtain ⟨p', cap', hv', _, _⟩ := RW.cut
  rw [List.length_map, List.length_range] at hv'
  subst hv'
  have hcl := hv.cell
  have hbw : Bl w U := bw5.trans hb5
  have HFR := hideP (show Fresh w.heap.size (.slice p' R cap') from fun g hg => by have := (hrow.lt g hg).1; have := bw5.size; omega)
  have HRW := hideP RW
  have HKD := hideP hKD
  clear hrow RW hKD hv
  gi_wp2
  refine ⟨by simp, .inl ⟨_, _, rfl, run_takeDeferred HKD.out, ?_⟩⟩
  exact ⟨_, results_tmp2 rfl _ _ _, p', cap', rfl, HRW.out, HFR.out, Below.trans hbw (belowK_b (w := w) (Nat.le_refl _) U Dm _ _ (by have := bw5.size; have := b57.size; omega) HKD.out rfl rfl)⟩
 case stop =>
  rintro D' c pre U _ _ h _
  exact h.elim
end Go.Proofs.YtljmggemdkfbiaaGreat
namespace Go.Proofs.YtljmggemdkfbiaaGreat
open Go.RowKit
set_option linter.unusedSimpArgs false
set_option linter.unusedVariables false
abbrev newsVN (x y : En) : Value := .agg #[.int .i64 x.v, .int .i64 x.l, .int .i64 x.h, .bool x.bad, .int .i64 y.v, .int .i64 y.l, .int .i64 y.h, .bool y.bad]
structure NBoxN (w : World) (b : Nat) (x y : En) : Prop where
 c0 : w.cell? ⟨b, 0, none⟩ = some (.int .i64 x.v)
 c1 : w.cell? ⟨b, 1, none⟩ = some (.int .i64 x.l)
 c2 : w.cell? ⟨b, 2, none⟩ = some (.int .i64 x.h)
 c3 : w.cell? ⟨b, 3, none⟩ = some (.bool x.bad)
 c4 : w.cell? ⟨b, 4, none⟩ = some (.int .i64 y.v)
 c5 : w.cell? ⟨b, 5, none⟩ = some (.int .i64 y.l)
 c6 : w.cell? ⟨b, 6, none⟩ = some (.int .i64 y.h)
 c7 : w.cell? ⟨b, 7, none⟩ = some (.bool y.bad)
 f0 : w.frozen? ⟨b, 0, none⟩ = false
 f1 : w.frozen? ⟨b, 1, none⟩ = false
 f2 : w.frozen? ⟨b, 2, none⟩ = false
 f3 : w.frozen? ⟨b, 3, none⟩ = false
 f4 : w.frozen? ⟨b, 4, none⟩ = false
 f5 : w.frozen? ⟨b, 5, none⟩ = false
 f6 : w.frozen? ⟨b, 6, none⟩ = false
 f7 : w.frozen? ⟨b, 7, none⟩ = false
 lt : b < w.heap.size
theorem NBoxN.heap {w w' : World} {b : Nat} {x y : En} (h : NBoxN w b x y) (e : w'.heap[b]? = w.heap[b]?) (hs : w.heap.size ≤ w'.heap.size) : NBoxN w' b x y :=
 ⟨(World.cell?_of_block (a := ⟨b, 0, none⟩) e).trans h.c0, (World.cell?_of_block (a := ⟨b, 1, none⟩) e).trans h.c1, (World.cell?_of_block (a := ⟨b, 2, none⟩) e).trans h.c2, (World.cell?_of_block (a := ⟨b, 3, none⟩) e).trans h.c3, (World.cell?_of_block (a := ⟨b, 4, none⟩) e).trans h.c4, (World.cell?_of_block (a := ⟨b, 5, none⟩) e).trans h.c5, (World.cell?_of_block (a := ⟨b, 6, none⟩) e).trans h.c6, (World.cell?_of_block (a := ⟨b, 7, none⟩) e).trans h.c7, (World.frozen?_of_block (a := ⟨b, 0, none⟩) e).trans h.f0, (World.frozen?_of_block (a := ⟨b, 1, none⟩) e).trans h.f1, (World.frozen?_of_block (a := ⟨b, 2, none⟩) e).trans h.f2, (World.frozen?_of_block (a := ⟨b, 3, none⟩) e).trans h.f3, (World.frozen?_of_block (a := ⟨b, 4, none⟩) e).trans h.f4, (World.frozen?_of_block (a := ⟨b, 5, none⟩) e).trans h.f5, (World.frozen?_of_block (a := ⟨b, 6, none⟩) e).trans h.f6, (World.frozen?_of_block (a := ⟨b, 7, none⟩) e).trans h.f7, Nat.lt_of_lt_of_le h.lt hs⟩
theorem NBoxN.later {w w' : World} {b : Nat} {x y : En} (h : NBoxN w b x y) (k : Bl w w') : NBoxN w' b x y := h.heap (Below.block k b h.lt) (Below.size k)
theorem NBoxN.new (w : World) (x y : En) (t : TypeId) : NBoxN (w.alloc (.cells #[.int .i64 x.v, .int .i64 x.l, .int .i64 x.h, .bool x.bad, .int .i64 y.v, .int .i64 y.l, .int .i64 y.h, .bool y.bad] t)) w.heap.size x y := by
 refine ⟨?_, ?_, ?_, ?_, ?_, ?_, ?_, ?_, ?_, ?_, ?_, ?_, ?_, ?_, ?_, ?_, by simp⟩ <;> simp [go_sem]
theorem NBoxN.fill {u : World} {b : Nat} {x y : En} (h : NBoxN u b x y) (x' y' : En) : NBoxN ((((((((u.setCell ⟨b, 0, none⟩ (.int .i64 x'.v)).setCell ⟨b, 1, none⟩ (.int .i64 x'.l)).setCell ⟨b, 2, none⟩ (.int .i64 x'.h)).setCell ⟨b, 3, none⟩ (.bool x'.bad)).setCell ⟨b, 4, none⟩ (.int .i64 y'.v)).setCell ⟨b, 5, none⟩ (.int .i64 y'.l)).setCell ⟨b, 6, none⟩ (.int .i64 y'.h)).setCell ⟨b, 7, none⟩ (.bool y'.bad)) b x' y' := by
 obtain ⟨c0, c1, c2, c3, c4, c5, c6, c7, f0, f1, f2, f3, f4, f5, f6, f7, lt⟩ := h
 refine ⟨?_, ?_, ?_, ?_, ?_, ?_, ?_, ?_, ?_, ?_, ?_, ?_, ?_, ?_, ?_, ?_, ?_⟩ <;> simp [go_sem, *]
theorem scale_linN (p : Option Addr) (n cap : Nat) (x : Nat → En) (b : En) (w : World) (h : Rw 4 cellsN w (.slice p n cap) (linJ n x)) (hl : n ≤ 1000000) :
  Calls Tryz.prog 78 #[.slice p n cap, enV b] w fun e w' => ∃ q c, e = .returned (.slice q n c) ∧ Rw 4 cellsN w' (.slice q n c) (linJ n fun i => mulE (x i) b) ∧ Bl w w' :=
 (vScaleN _ _ b w h (by rw [linJ_len]; exact hl)).mono fun e w' ⟨u, he, hr, hb⟩ => by
  rw [linJ_map] at hr
  obtain ⟨q, c, rfl, _, _⟩ := hr.cut
  rw [linJ_len] at hr he
  exact ⟨q, c, he, hr, hb⟩
theorem add_linN (p q : Option Addr) (n cap cap2 : Nat) (x y : Nat → En) (w : World) (h : Rq 4 cellsN w (.slice p n cap) (linJ n x)) (h2 : Rq 4 cellsN w (.slice q n cap2) (linJ n y)) (hl : n ≤ 1000000) :
  Calls Tryz.prog 77 #[.slice p n cap, .slice q n cap2] w fun e w' => ∃ q c, e = .returned (.slice q n c) ∧ (Rw 4 cellsN w' (.slice q n c) (linJ n fun i => addE (x i) (y i)) ∧ Fresh w.heap.size (.slice q n c)) ∧ Bl w w' :=
 (vAddN' _ _ _ _ w h h2 (by rw [linJ_len]; exact hl) (by rw [linJ_len]; exact hl)).mono fun e w' ⟨u, he, hr, hf, hb⟩ => by
  rw [linJ_zip] at hr
  obtain ⟨q, c, rfl, _, _⟩ := hr.cut
  rw [linJ_len] at hr hf he
  exact ⟨q, c, he, ⟨hr, hf⟩, hb⟩
theorem Tryz.buildNN (x y : En) (u : World) : (Instr.build 54 #[(0, enV x), (1, enV y)]).run Tryz.prog u = .ok (newsVN x y) u := by kernel_rfl
end Go.Proofs.YtljmggemdkfbiaaGreat
