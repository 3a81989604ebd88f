/- awake of layer 8's laws. -/
import Derived.Test.YtlbmkjicbkfmjaaGreatGB
import Derived.Test.YtlbmkjicbkfmjaaGreatGA
import Derived.Test.YtlbmkjicbkfmjaaGreatGG
import Derived.Laws.EntriesVeiled
import Derived.Maps.OwnIn
import Derived.Test.YtlbmkjicbkfmjaaGreatGH
import Derived.Test.YtlbmkjicbkfmjaaGreatFr2
import Derived.Test.YtlbmkjicbkfmjaaGreatFr3
/- Contracts of house's away, less, of fractions (layer 8). Written by genHu.py. -/
namespace Go.Proofs.YtlbmkjicbkfmjaaGreat
open Go.RowKit Go.Shelf
set_option linter.unusedSimpArgs false
set_option linter.unusedVariables false
attribute [local go_sem] Oper.semAt_some

theorem Tryz.hSignF (x : Value) (w : World) : (method 332 66 x "Sign").run Tryz.prog w = .ok (230, x) w := by kernel_rfl
theorem Tryz.hNegF (x : Value) (w : World) : (method 332 66 x "Neg").run Tryz.prog w = .ok (227, x) w := by kernel_rfl
theorem Tryz.hAddF (x : Value) (w : World) : (method 332 66 x "Add").run Tryz.prog w = .ok (223, x) w := by kernel_rfl
/-- Whether it is below 0. -/
def lowFr (x : Fr) : Bool := decide (signR x < 0)
theorem hAwayF (v : Value) (xs : List Fr) (x : Fr) (w : World) (h : Rq 3 cellsF w v xs) (hl : xs.length ≤ 1000000) (hx : xs[0]? = some x) :
    Calls Tryz.prog 161 #[v] w fun e w' => e = .returned (frV (if lowFr x = true then rootR (dotF xs xs) else negR (rootR (dotF xs xs)))) ∧ Bl w w' := by
  have mr := Tryz.mRootF
  have ms := Tryz.hSignF
  have mn := Tryz.hNegF
  have hlen : 0 < xs.length := (List.getElem?_eq_some_iff.1 hx).1
  obtain ⟨b, o, cap, rfl, hcap, hb, CX⟩ : ∃ b o cap, v = .slice (some ⟨b, o, none⟩) xs.length cap ∧ xs.length ≤ cap ∧ b < w.heap.size ∧ ∀ k u, (cellsF x)[k]? = some u → w.cell? ⟨b, o + k, none⟩ = some u := by
    rcases h with ⟨p, cap, _, rfl, _⟩ | ⟨b, o, cap, e, hc, hb, hq⟩
    · simp at hlen
    · exact ⟨b, o, cap, e, hc, hb, fun k u hu => by have := hq 0 x hx k u hu; simpa using this⟩
  have DOT := hideP (fun u (hu : Bl w u) => vDotF (.slice (some ⟨b, o, none⟩) xs.length cap) (.slice (some ⟨b, o, none⟩) xs.length cap) xs xs u (h.later hu) (h.later hu) hl hl)
  obtain ⟨d, hd⟩ : ∃ d, d = dotF xs xs := ⟨_, rfl⟩
  rw [← hd] at DOT ⊢
  obtain ⟨r, hr⟩ : ∃ r, r = rootR d := ⟨_, rfl⟩
  have ROOT := hideP (fun u => by have := rroot_any d u; rw [← hr] at this; exact this)
  rw [← hr]
  obtain ⟨l, hl0⟩ : ∃ l, l = xs.length := ⟨_, rfl⟩
  rw [← hl0] at DOT hlen hcap ⊢
  have HX := hideP CX
  clear h hx hd hr hl hl0 CX
  have SG := hideP (show lowFr x = decide (signR x < 0) from rfl)
  have SGC := hideP (fun u => rsign_any x u)
  generalize signR x = sg at *
  generalize lowFr x = lo at *
  obtain ⟨W, hW⟩ : ∃ W, W = w.alloc (.cells #[.int .i64 0, .int .i64 0, .bool false] 66) := ⟨_, rfl⟩
  have b0 : Bl w W := by rw [hW]; exact (Bl.refl _).alloc _
  have x0 : FBox W w.heap.size zeroR := by rw [hW]; exact FBox.new w zeroR 66
  have HW := hideP hW
  clear hW
  go_enter Tryz.func161, Tryz.ntmps161
  go_wp2_with fail
  rw [← HW.out]
  refine (DOT.out _ b0).mono ?_
  rintro e w1 ⟨rfl, h1⟩
  go_wp2_with fail
  refine (ROOT.out _).mono ?_
  rintro e w2 ⟨rfl, h2⟩
  obtain ⟨W2, hW2⟩ : ∃ W2, W2 = w2.alloc (.cells #[.int .i64 r.n, .int .i64 r.d, .bool r.bad] 66) := ⟨_, rfl⟩
  have b2 : Bl w2 W2 := by rw [hW2]; exact (Bl.refl _).alloc _
  have k2 := FBox.new w2 r 66
  rw [← hW2] at k2
  have y0 := (x0.later (h1.trans h2)).later b2
  have wW2 : Bl w W2 := b0.trans ((h1.trans h2).trans b2)
  have q0 : w2.cell? ⟨b, o, none⟩ = some (.int .i64 x.n) := (bl_cell (b0.trans (h1.trans h2)) _ _ hb).trans (HX.out 0 _ rfl)
  have q1 : w2.cell? ⟨b, o + 1, none⟩ = some (.int .i64 x.d) := (bl_cell (b0.trans (h1.trans h2)) _ _ hb).trans (HX.out 1 _ rfl)
  have q2 : w2.cell? ⟨b, o + 2, none⟩ = some (.bool x.bad) := (bl_cell (b0.trans (h1.trans h2)) _ _ hb).trans (HX.out 2 _ rfl)
  have hb2 : b < w2.heap.size := Nat.lt_of_lt_of_le hb (Below.size (b0.trans (h1.trans h2)))
  have HW2 := hideP hW2
  clear hW2 DOT ROOT
  go_wp2_with fail
  rw [← HW2.out]
  refine (SGC.out _).mono ?_
  rintro e w3 ⟨rfl, h3⟩
  clear q0 q1 q2
  obtain ⟨c0, c1, c2, f0, f1, f2, lt3⟩ := k2.later h3
  obtain ⟨d0, d1, d2, g0, g1, g2, lt4⟩ := y0.later h3
  by_cases hs : sg < 0
  · have hlo : lo = true := by rw [SG.out]; exact decide_eq_true hs
    subst hlo
    go_wp2
    simp [bodyPost, results, Tryz.results161, go_sem, c0, c1, c2, d0, d1, d2]
    exact Bl.set3 (wW2.trans h3) (Nat.le_refl _) _ _ _
  · have hlo : lo = false := by rw [SG.out]; exact decide_eq_false hs
    subst hlo
    go_wp2_with fail
    refine (rneg_any r _).mono ?_
    rintro e w4 ⟨rfl, h4⟩
    clear c0 c1 c2 f0 f1 f2 d0 d1 d2 g0 g1 g2
    obtain ⟨d0, d1, d2, g0, g1, g2, lt5⟩ := (y0.later h3).later h4
    go_wp2
    simp [bodyPost, results, Tryz.results161, go_sem, d0, d1, d2]
    exact Bl.set3 ((wW2.trans h3).trans h4) (Nat.le_refl _) _ _ _
end Go.Proofs.YtlbmkjicbkfmjaaGreat

/- Contract of house's less, of fractions (layer 8). Written by genHu.py. -/
namespace Go.Proofs.YtlbmkjicbkfmjaaGreat
open Go.RowKit Go.Shelf
set_option linter.unusedSimpArgs false
set_option linter.unusedVariables false
attribute [local go_sem] Oper.semAt_some

set_option maxRecDepth 100000 in
set_option maxHeartbeats 2000000 in
theorem hLessF (vw vv : Value) (ws vs : List Fr) (q : Fr) (w : World) (hw : Rq 3 cellsF w vw ws) (hv : Rw 3 cellsF w vv vs) (hl : ws.length ≤ 1000000) (hm : vs.length ≤ 1000000) :
    Calls Tryz.prog 162 #[vw, vv, frV q] w fun e w' => ∃ u, e = .returned u ∧ Rw 3 cellsF w' u (lessH kdF ws vs q) ∧ Bl w w' := by
  have fm : Tryz.prog.follows .mixedOrders = true := by kernel_rfl
  have egA := enters_of Tryz.func223 (by kernel_rfl) rfl
  have egD := enters_of Tryz.func224 (by kernel_rfl) rfl
  have HL := hideP (show lessH kdF ws vs q = List.zipWith subR ws (vs.map fun x => mulR x (divR (addR (dotF ws vs) (dotF ws vs)) q)) from rfl)
  obtain ⟨W, hW⟩ : ∃ W, W = w.alloc (.cells #[.int .i64 q.n, .int .i64 q.d, .bool q.bad] 66) := ⟨_, rfl⟩
  have b0 : Bl w W := by rw [hW]; exact (Bl.refl _).alloc _
  have kq : FBox W w.heap.size q := by rw [hW]; exact FBox.new w q 66
  have DOT := hideP (fun u (hu : Bl w u) => vDotF vw vv ws vs u (hw.later hu) (hv.q.later hu) hl hm)
  obtain ⟨d, hd⟩ : ∃ d, d = dotF ws vs := ⟨_, rfl⟩
  rw [← hd] at DOT HL
  obtain ⟨s, hs⟩ : ∃ s, s = addR d d := ⟨_, rfl⟩
  have ADD := hideP (fun u => by have := radd_any d d u; rw [← hs] at this; exact this)
  rw [← hs] at HL
  obtain ⟨t, ht⟩ : ∃ t, t = divR s q := ⟨_, rfl⟩
  have DIV := hideP (fun u => by have := rdiv_any s q u; rw [← ht] at this; exact this)
  rw [← ht] at HL
  have SCL := hideP (fun u (hu : Bl w u) => vScaleF vv vs t u (hv.later hu) hm)
  have HW0 := hideP hw
  have HW := hideP hW
  clear hW hw hv hd hs ht
  go_enter Tryz.func162, Tryz.ntmps162
  go_wp2_with fail
  rw [← HW.out]
  refine (DOT.out _ b0).mono ?_
  rintro e w1 ⟨rfl, h1'⟩
  have h1 : Bl W w1 := h1'
  obtain ⟨W1, hW1⟩ : ∃ W1, W1 = w1.alloc (.cells #[.int .i64 d.n, .int .i64 d.d, .bool d.bad] 66) := ⟨_, rfl⟩
  have b1 : Bl w1 W1 := by rw [hW1]; exact (Bl.refl _).alloc _
  have k1 := FBox.new w1 d 66
  rw [← hW1] at k1
  have wW1 : Bl w W1 := (b0.trans h1).trans b1
  have HW1 := hideP hW1
  clear hW1 DOT
  go_wp2_with fail
  rw [← HW1.out]
  refine (wpIn_wide (n := 8)).1 (region_q fm [some 11, some 12, some 13, some 14, some 15, some 16, some 17, none] (fun _ => false) 7 (by kernel_rfl) (by rfl)
    (fun j v u => match j with | 0 => v = frV d | 1 => v = .iface 66 (frV d) | 2 => v = frV d | 3 => v = frV s | 4 => v = .iface 66 (frV s) | 5 => v = frV q | 6 => v = frV t | _ => False)
    (fun j v u u' _ h => h) (fun vs u0 u => FBox u w1.heap.size t ∧ Bl w u) ?step ?still ?store ?fin)
  case step =>
    intro j o t act u ho hdt hpu hsz hu hfr hin
    have hj : j < 8 := (Array.getElem?_eq_some_iff.1 ho).1
    obtain ⟨c0, c1, c2, f0, f1, f2, ltq⟩ := kq.later (h1.trans (b1.trans hu))
    obtain ⟨d0, d1, d2, g0, g1, g2, ltd⟩ := k1.later hu
    rcases (by omega : j = 0 ∨ j = 1 ∨ j = 2 ∨ j = 3 ∨ j = 4 ∨ j = 5 ∨ j = 6 ∨ j = 7) with rfl | rfl | rfl | rfl | rfl | rfl | rfl | rfl
    · simp only [List.getElem?_toArray, List.getElem?_cons_zero, List.getElem?_cons_succ, Option.some.injEq] at ho
      subst ho
      obtain rfl := Option.some.inj hdt
      have i7 : act.eval (.tmp (7 : Nat)) = .pointer (some ⟨w1.heap.size, 0, none⟩) := hfr 7 (by decide)
      exact plain_wp (by intro c h; cases h) (fun _ _ => trivial) (by simp only [execOp, i7, evalC, evalF, evalG]; simp [go_sem, c0, c1, c2, d0, d1, d2]) ⟨_, rfl, rfl, Bl.refl _⟩
    · simp only [List.getElem?_toArray, List.getElem?_cons_zero, List.getElem?_cons_succ, Option.some.injEq] at ho
      subst ho
      obtain rfl := Option.some.inj hdt
      have i11 : (act.eval (.tmp (11 : Nat))) = frV d := hin ⟨0, .data⟩ (by simp) rfl 11 rfl
      exact plain_wp (by intro c h; cases h) (fun _ _ => trivial) (by simp only [execOp, i11, evalC, evalF, evalG]; simp [go_sem, c0, c1, c2, d0, d1, d2]) ⟨_, rfl, rfl, Bl.refl _⟩
    · simp only [List.getElem?_toArray, List.getElem?_cons_zero, List.getElem?_cons_succ, Option.some.injEq] at ho
      subst ho
      obtain rfl := Option.some.inj hdt
      have i7 : act.eval (.tmp (7 : Nat)) = .pointer (some ⟨w1.heap.size, 0, none⟩) := hfr 7 (by decide)
      exact plain_wp (by intro c h; cases h) (fun _ _ => trivial) (by simp only [execOp, i7, evalC, evalF, evalG]; simp [go_sem, c0, c1, c2, d0, d1, d2]) ⟨_, rfl, rfl, Bl.refl _⟩
    · simp only [List.getElem?_toArray, List.getElem?_cons_zero, List.getElem?_cons_succ, Option.some.injEq] at ho
      subst ho
      obtain rfl := Option.some.inj hdt
      have i12 : (act.eval (.tmp (12 : Nat))) = .iface 66 (frV d) := hin ⟨1, .data⟩ (by simp) rfl 12 rfl
      have i13 : (act.eval (.tmp (13 : Nat))) = frV d := hin ⟨2, .data⟩ (by simp) rfl 13 rfl
      have iv := Tryz.hAddF
      refine enter_wp 223 #[frV d, frV d] (by intro c h; cases h) (fun _ _ => trivial) (by simp only [execOp, evalC, evalF, evalG, resolve, i12, i13, List.map_toArray, List.map_cons, List.map_nil]; simp [invoke, iv, egA, Result.andThen, go_sem]) (by intro h; cases h) (callsIn_wide.2 (ADD.out u)) ?_
      rintro e w' ⟨rfl, hb⟩
      exact ⟨_, rfl, _, rfl, rfl, hb⟩
    · simp only [List.getElem?_toArray, List.getElem?_cons_zero, List.getElem?_cons_succ, Option.some.injEq] at ho
      subst ho
      obtain rfl := Option.some.inj hdt
      have i14 : (act.eval (.tmp (14 : Nat))) = frV s := hin ⟨3, .data⟩ (by simp) rfl 14 rfl
      exact plain_wp (by intro c h; cases h) (fun _ _ => trivial) (by simp only [execOp, i14, evalC, evalF, evalG]; simp [go_sem, c0, c1, c2, d0, d1, d2]) ⟨_, rfl, rfl, Bl.refl _⟩
    · simp only [List.getElem?_toArray, List.getElem?_cons_zero, List.getElem?_cons_succ, Option.some.injEq] at ho
      subst ho
      obtain rfl := Option.some.inj hdt
      have i5 : act.eval (.tmp (5 : Nat)) = .pointer (some ⟨w.heap.size, 0, none⟩) := hfr 5 (by decide)
      exact plain_wp (by intro c h; cases h) (fun _ _ => trivial) (by simp only [execOp, i5, evalC, evalF, evalG]; simp [go_sem, c0, c1, c2, d0, d1, d2]) ⟨_, rfl, rfl, Bl.refl _⟩
    · simp only [List.getElem?_toArray, List.getElem?_cons_zero, List.getElem?_cons_succ, Option.some.injEq] at ho
      subst ho
      obtain rfl := Option.some.inj hdt
      have i15 : (act.eval (.tmp (15 : Nat))) = .iface 66 (frV s) := hin ⟨4, .data⟩ (by simp) rfl 15 rfl
      have i16 : (act.eval (.tmp (16 : Nat))) = frV q := hin ⟨5, .data⟩ (by simp) rfl 16 rfl
      have iv := Tryz.mDivF
      refine enter_wp 224 #[frV s, frV q] (by intro c h; cases h) (fun _ _ => trivial) (by simp only [execOp, evalC, evalF, evalG, resolve, i15, i16, List.map_toArray, List.map_cons, List.map_nil]; simp [invoke, iv, egD, Result.andThen, go_sem]) (by intro h; cases h) (callsIn_wide.2 (DIV.out u)) ?_
      rintro e w' ⟨rfl, hb⟩
      exact ⟨_, rfl, _, rfl, rfl, hb⟩
    · simp only [List.getElem?_toArray, List.getElem?_cons_zero, List.getElem?_cons_succ, Option.some.injEq] at ho
      subst ho
      cases hdt
  case still =>
    intro j o t act u0 u ho hdt hpu
    cases hpu
  case store =>
    intro o act u vs ho hsz hu hfr hin
    simp only [List.getElem?_toArray, List.getElem?_cons_zero, List.getElem?_cons_succ, Option.some.injEq] at ho
    subst ho
    have i7 : act.eval (.tmp (7 : Nat)) = .pointer (some ⟨w1.heap.size, 0, none⟩) := hfr 7 (by decide)
    obtain ⟨i17, k17⟩ : act.eval (.tmp (17 : Nat)) = vs 6 ∧ ((vs 6) = frV t) := hin 6 17 rfl rfl
    rw [k17] at i17
    obtain ⟨c0, c1, c2, f0, f1, f2, ltb⟩ := k1.later hu
    exact skip_wp (by intro c h; cases h) (fun _ _ => trivial) (by simp only [execOp, i7, i17]; simp [go_sem, c0, c1, c2, f0, f1, f2]) ⟨rfl, (k1.later hu).fill _, Bl.set3 (wW1.trans hu) (by have := (b0.trans h1).size; omega) _ _ _⟩
  case fin =>
    intro vs vb u0 u hu hin hps
    have a0 := hin 0 11 rfl
    have a1 := hin 1 12 rfl
    have a2 := hin 2 13 rfl
    have a3 := hin 3 14 rfl
    have a4 := hin 4 15 rfl
    have a5 := hin 5 16 rfl
    have a6 := hin 6 17 rfl
    simp only [putL, Act.put, List.setIfInBounds_toArray, List.set_cons_zero, List.set_cons_succ, Nat.zero_add, Nat.reduceAdd, Nat.reduceBEq, Bool.or_false, Bool.or_true, Bool.false_or, Bool.true_or, Bool.false_eq_true, if_false, if_true, reduceIte, Nat.reduceEqDiff, beq_self_eq_true, Bool.or_self] at a0 a1 a2 a3 a4 a5 a6 ⊢
    rw [if_pos (by decide)] at hps
    simp only [a0, a1, a2, a3, a4, a5, a6]
    obtain ⟨bt, hbt⟩ := hps
    obtain ⟨c0, c1, c2, f0, f1, f2, ltb⟩ := bt
    go_wp2_with fail
    refine (SCL.out _ hbt).mono ?_
    rintro e w2 ⟨u2, rfl, hs2, h2⟩
    have HS2 := hideP hs2
    clear hs2 c0 c1 c2 f0 f1 f2
    go_wp2_with fail
    refine (vSubF _ _ ws _ _ (HW0.out.later (hbt.trans h2)) HS2.out.q hl (by rw [List.length_map]; exact hm)).mono ?_
    rintro e w3 ⟨u3, rfl, hs3, h3⟩
    have HS3 := hideP hs3
    clear hs3
    go_wp2
    go_ret
    exact ⟨_, rfl, by rw [HL.out]; exact HS3.out, (hbt.trans h2).trans h3⟩
end Go.Proofs.YtlbmkjicbkfmjaaGreat

/- Contract of house's fold, of fractions (layer 8). Written by genHu.py. -/
namespace Go.Proofs.YtlbmkjicbkfmjaaGreat
open Go.RowKit Go.Shelf
set_option linter.unusedSimpArgs false
set_option linter.unusedVariables false
attribute [local go_sem] Oper.semAt_some

theorem FBox.but {w w' : World} {b : Nat} {x : Fr} {S : Nat → Prop} (h : FBox w b x) (k : But S w w') (hs : ¬ S b) : FBox w' b x := by
  obtain ⟨c0, c1, c2, f0, f1, f2, lt⟩ := h
  refine ⟨(k.cell _ _ lt hs).trans c0, (k.cell _ _ lt hs).trans c1, (k.cell _ _ lt hs).trans c2, (k.froz _ _ lt hs).trans f0, (k.froz _ _ lt hs).trans f1, (k.froz _ _ lt hs).trans f2, Nat.lt_of_lt_of_le lt k.size⟩
theorem FBox.setc {w : World} {b g : Nat} {x : Fr} (h : FBox w b x) (hne : b ≠ g) (vs : List Value) (o : Nat) : FBox (w.setCells g o vs) b x :=
  h.but (S := fun i => i = g) (but_setCells (S := fun i => i = g) (b := g) rfl vs o w w (But.refl _ _)) hne
/-- A row from a place on, as the program takes it. -/
theorem Tryz.restF (b n cap lo : Nat) (w : World) (h1 : lo ≤ n) (h3 : n ≤ cap) (h4 : lo < cap) : (Instr.sliceAt 60 (.slice (some ⟨b, 0, none⟩) n cap) (some (.int .i64 lo)) none none).run Tryz.prog w = .ok (.slice (some ⟨b, lo * 3, none⟩) (n - lo) (cap - lo)) w := by
  have hu : Tryz.prog.underlying 60 = some (.slice (Tryz.prog.elem 60)) := by kernel_rfl
  obtain ⟨i0, hi0, hz0, hz1, hz2⟩ := info_parts Tryz.info_F
  have he : Tryz.prog.elem 60 = 66 := by kernel_rfl
  rw [run_sliceAt_slice (h := hu), run_slice_l (ht := hu) (h0 := by omega) (h1 := by omega), he]
  have hcm : ¬ cap = lo := by omega
  have hcm' : ¬ cap ≤ lo := by omega
  simp [sizeOf, typeInfo, hi0, sliced, Result.andThen, hz1, hcm, hcm', Addr.add]
  omega
theorem Tryz.info_TF : (Tryz.prog.info? 60).map (fun i => (i.zero, i.size, i.bytes)) = some (some (.slice none 0 0), 1, 24) := by kernel_rfl
/-- The rows behind one, as the program takes them. -/
theorem Tryz.rowsF (b n cap lo : Nat) (z : Int) (hz : z = lo) (h1 : lo ≤ n) (h3 : n ≤ cap) : ∃ p, (∀ w, (Instr.sliceAt 153 (.slice (some ⟨b, 0, none⟩) n cap) (some (.int .i64 z)) none none).run Tryz.prog w = .ok (.slice p (n - lo) (cap - lo)) w) ∧ (lo < n → p = some ⟨b, lo, none⟩) := by
  subst hz
  have hu : Tryz.prog.underlying 153 = some (.slice (Tryz.prog.elem 153)) := by kernel_rfl
  obtain ⟨i0, hi0, hz0, hz1, hz2⟩ := info_parts Tryz.info_TF
  have he : Tryz.prog.elem 153 = 60 := by kernel_rfl
  by_cases hc : lo < cap
  · refine ⟨some ⟨b, lo, none⟩, fun w => ?_, fun _ => rfl⟩
    rw [run_sliceAt_slice (h := hu), run_slice_l (ht := hu) (h0 := by omega) (h1 := by omega), he]
    have hcm : ¬ cap = lo := by omega
    have hcm' : ¬ cap ≤ lo := by omega
    simp [sizeOf, typeInfo, hi0, sliced, Result.andThen, hz1, hcm, hcm', Addr.add]
    omega
  · refine ⟨some ⟨b, 0, none⟩, fun w => ?_, fun h => by omega⟩
    rw [run_sliceAt_slice (h := hu), run_slice_l (ht := hu) (h0 := by omega) (h1 := by omega), he]
    have hcm : cap = lo := by omega
    have hcm' : cap ≤ lo := by omega
    simp [sizeOf, typeInfo, hi0, sliced, Result.andThen, hz1, hcm, Addr.add]
theorem Tryz.sizeF : (Tryz.prog.info? 66).map (·.size) = some 3 := by kernel_rfl
set_option maxRecDepth 100000 in
set_option maxHeartbeats 4000000 in
theorem hFoldF (H hc : Nat) (B cp : Nat → Nat) (n m k : Nat) (a : Nat → Nat → Fr) (w : World) (h : Tbl 3 cellsF w H B cp n m a) (hk : k < n) (hnm : n ≤ m) (hm : m ≤ 1000) (hcap : n ≤ hc) :
    Calls Tryz.prog 126 #[.slice (some ⟨H, 0, none⟩) n hc, .int .i64 k] w fun e w' => (∃ v, e = .returned v) ∧ Tbl 3 cellsF w' H B cp n m (foldStep kdF m k (lowFr (a k k)) a) ∧ But (InT B n) w w' := by
  have fm : Tryz.prog.follows .mixedOrders = true := by kernel_rfl
  have egS := enters_of Tryz.func231 (by kernel_rfl) rfl
  have SZ := hideP Tryz.sizeF
  obtain ⟨i0, hi, hz0, hz1, hz2⟩ := info_parts Tryz.info_F
  obtain ⟨j0, hji, jz0, jz1, jz2⟩ := info_parts Tryz.info_I
  have hkm : k ≤ m := by omega
  have hb := h.blt k hk
  have hdr := h.hdr k hk
  have hck := h.cap k hk
  have XC0 := h.cells k k hk (by omega)
  have hpart := h.part (i := k) (k := k) hk hkm
  obtain ⟨b, hbe⟩ : ∃ b, b = B k := ⟨_, rfl⟩
  obtain ⟨ck, hce⟩ : ∃ ck, ck = cp k := ⟨_, rfl⟩
  rw [← hbe] at hb hdr hpart XC0
  rw [← hce] at hdr hck hpart
  obtain ⟨l, hl⟩ : ∃ l, l = m - k := ⟨_, rfl⟩
  obtain ⟨cx, hcx⟩ : ∃ cx, cx = ck - k := ⟨_, rfl⟩
  have hl1 : 0 < l := by omega
  have hl2 : l ≤ 1000 := by omega
  have hlc : l ≤ cx := by omega
  have sl := fun u => Tryz.restF b m ck k u hkm hck (by omega)
  rw [← hl, ← hcx] at sl hpart
  obtain ⟨pr, spr, hpe⟩ := Tryz.rowsF H n hc (k + 1) ((k : Int) + 1) (by omega) (by omega) hcap
  have HLL := hideP hl
  have HBE := hideP hbe
  obtain ⟨x, hx⟩ : ∃ x, x = a k k := ⟨_, rfl⟩
  obtain ⟨p, hp⟩ : ∃ p, p = pH kdF m k (lowFr (a k k)) a := ⟨_, rfl⟩
  obtain ⟨y, hy⟩ : ∃ y, y = subR x p := ⟨_, rfl⟩
  obtain ⟨q, hq⟩ : ∃ q, q = dotF (tailH m k (vH kdF m k (lowFr (a k k)) a)) (tailH m k (vH kdF m k (lowFr (a k k)) a)) := ⟨_, rfl⟩
  have HQ := hideP hq
  have XT := hideP (tail_consH (a k) (show k < m by omega))
  have VT := hideP (show tailH m k (vH kdF m k (lowFr (a k k)) a) = y :: (List.range (m - k - 1)).map fun j => a k (k + 1 + j) by
    rw [tail_consH _ (show k < m by omega)]
    congr 1
    · unfold vH; rw [if_pos rfl, hy, hx, hp]; rfl
    · refine List.map_congr_left fun j _ => ?_
      unfold vH; rw [if_neg (by omega)])
  have SUB := hideP (fun u => by have := rsub_any x p u; rw [← hy] at this; exact this)
  have AW := hideP (show Calls Tryz.prog 161 #[.slice (some ⟨b, k * 3, none⟩) l cx] w fun e w' => e = .returned (frV p) ∧ Bl w w' from by
    have := hAwayF (.slice (some ⟨b, k * 3, none⟩) l cx) (tailH m k (a k)) (a k k) w hpart (by rw [tail_len]; omega) (by rw [tail_get _ (by omega)]; rfl)
    rw [hp]
    exact this)
  have HP := hideP hp
  have HX := hideP hx
  have XC0' := hideP (show ∀ i u, (cellsF x)[i]? = some u → w.cell? ⟨b, k * 3 + i, none⟩ = some u by rw [hx]; exact XC0)
  have hl0 : (tailH m k (a k)).length = l := by rw [tail_len, hl]
  obtain ⟨cs, hcs⟩ : ∃ cs, cs = (tailH m k (a k)).flatMap cellsF := ⟨_, rfl⟩
  have hcl : cs.length = l * 3 := by rw [hcs, flat_len cellsF_len, hl0]
  have one : ∀ v ∈ cs, v.oneCell' = true := by rw [hcs]; exact flat_one oneF_cells _
  have SRC := hideP (show ∀ (j : Nat) u, cs[j]? = some u → w.cell? ((⟨b, k * 3, none⟩ : Addr).add j) = some u by
    rw [hcs]
    rcases hpart with ⟨_, _, _, e, _⟩ | ⟨b', o', c', e, _, _, hx⟩
    · rw [e] at hl0; simp at hl0; omega
    · simp only [Value.slice.injEq, Option.some.injEq, Addr.mk.injEq] at e
      obtain ⟨⟨rfl, rfl, _⟩, _, _⟩ := e
      exact flat_cells cellsF_len hx)
  have HCS := hideP hcs
  have HH := hideP h
  clear h hl hcx hbe hce hx hp hy hq XC0 hpart hcs hl0
  go_enter Tryz.func126, Tryz.ntmps126
  go_wp2_with fail
  refine AW.out.mono ?_
  rintro e w1 ⟨rfl, h1⟩
  obtain ⟨W1, hW1⟩ : ∃ W1, W1 = w1.alloc (.cells #[.int .i64 p.n, .int .i64 p.d, .bool p.bad] 66) := ⟨_, rfl⟩
  have b1 : Bl w1 W1 := by rw [hW1]; exact (Bl.refl _).alloc _
  have k1 := FBox.new w1 p 66
  rw [← hW1] at k1
  have hs1 : W1.heap.size = w1.heap.size + 1 := by rw [hW1]; simp
  have wW1 : Bl w W1 := h1.trans b1
  have HW1 := hideP hW1
  clear hW1 AW hdr
  go_wp2_with (first | (at_make; rw [← HW1.out]; refine wpList_make_full _ rfl _ _ 60 rfl W1.heap.size 66 i0 (.agg #[.int .i64 0, .int .i64 0, .bool false]) 3 Tryz.underlying60 hi hz0 hz1 .i64 .i64 _ _ l rfl rfl (by simp) (by simp) (by rw [hz2]; omega) (by unfold maxLen; omega) (Nat.le_refl _) ?_; intro w2 hown2 hgrow2; obtain ⟨g, hgz⟩ : ∃ g, g = W1.heap.size := ⟨_, rfl⟩; rw [← hgz] at hown2 ⊢; have HG := hideP hgz; clear hgz; have h2 : Bl W1 w2 := ⟨hgrow2.os, hgrow2.tape, hgrow2.output, hgrow2.size, fun k hk => hgrow2.block k hk nofun⟩; have hg2 := (hown2.lt g rfl).2; have CPY := hideP (RwZ.copy cellsF_len hown2 (xs := tailH m k (a k)) (by rw [tail_len, HLL.out]) hl1); rw [← HCS.out] at CPY; clear hown2 hgrow2) | (show wpList _ _ _ (Oper.mk _ (Op.call { callee := .builtin .copy, args := _, argTypes := _ }) _ _ _ _ :: _) _ _; refine wpList_copy_s rfl _ _ _ _ rfl 66 Tryz.underlying60 3 SZ.out g 0 l l ⟨b, k * 3, none⟩ l cx rfl rfl l cs (Nat.min_self _) hcl (fun j u hu => by have := SRC.out j u hu; have e := add_off (⟨b, k * 3, none⟩ : Addr) j rfl; rw [e] at this ⊢; exact (bl_cell (wW1.trans h2) _ _ hb).trans this) CPY.out.2.1 (fun j _ => CPY.out.2.2 j) one ?_; intro w3 hw3))
  have VR := hideP (show RwZ 3 cellsF w3 w.heap.size (.slice (some ⟨g, 0, none⟩) l l) (tailH m k (a k)) by rw [hw3.out]; have := CPY.out.1; rw [Nat.zero_mul] at this; rw [HG.out] at this ⊢; exact this.base wW1.size)
  have hgw : w.heap.size ≤ g := by rw [HG.out]; exact wW1.size
  have w03 := hideP (show Bl w w3 by rw [hw3.out]; exact bl_setCells (wW1.trans h2) hgw cs 0)
  have hg3 : g < w3.heap.size := by rw [hw3.out, setCells_size]; exact hg2
  have hb3 : b < w3.heap.size := Nat.lt_of_lt_of_le hb w03.out.size
  have kp3 : FBox w3 w1.heap.size p := by rw [hw3.out]; exact (k1.later h2).setc (by rw [HG.out]; omega) _ _
  have XC := hideP (show ∀ i u, (cellsF x)[i]? = some u → w3.cell? ⟨b, k * 3 + i, none⟩ = some u from fun i u hu => (bl_cell w03.out _ _ hb).trans (XC0'.out i u hu))
  have GC := hideP (show ∀ i u, (cellsF x)[i]? = some u → w3.cell? ⟨g, i, none⟩ = some u from fun i u hu => by
    obtain ⟨g', c', e, _, _, _, _, hx⟩ := VR.out
    cases e
    have := hx 0 (a k k) (by rw [tail_get _ (by rw [← HLL.out]; exact hl1)]; rfl) i u (by rw [← HX.out]; exact hu)
    rwa [Nat.zero_mul, Nat.zero_add] at this)
  have GF := hideP (show ∀ i, w3.frozen? ⟨g, i, none⟩ = false from fun i => by
    obtain ⟨g', c', e, _, _, _, hf, _⟩ := VR.out
    cases e
    exact hf i)
  have GI := hideP (show ¬ InT B n g from by
    rintro ⟨i, hi', e⟩
    have := HH.out.blt i hi'
    omega)
  clear CPY hw3 SRC k1

  refine (wpIn_wide (n := 8)).1 (region_q fm [some 25, some 26, some 27, some 28, some 29, some 30, some 31, some 32, none] (fun _ => false) 8 (by kernel_rfl) (by rfl)
    (fun j v u => match j with | 0 => v = .slice (some ⟨g, 0, none⟩) l l | 1 => v = .slice (some ⟨b, k * 3, none⟩) l cx | 2 => v = .pointer (some ⟨b, k * 3, none⟩) | 3 => v = frV x | 4 => v = .iface 66 (frV x) | 5 => v = frV p | 6 => v = frV y | 7 => v = .pointer (some ⟨g, 0, none⟩) | _ => False)
    (fun j v u u' _ h => h) (fun vs u0 u => u = u0.setCells g 0 (cellsF y)) ?step ?still ?store ?fin)
  case step =>
    intro j o t act u ho hdt hpu hsz hu hfr hin
    have hj : j < 9 := (Array.getElem?_eq_some_iff.1 ho).1
    obtain ⟨c0, c1, c2, f0, f1, f2, ltp⟩ := kp3.later hu
    have x0 : u.cell? ⟨b, k * 3, none⟩ = some (.int .i64 x.n) := (bl_cell hu _ _ hb3).trans (XC.out 0 _ rfl); have x1 : u.cell? ⟨b, k * 3 + 1, none⟩ = some (.int .i64 x.d) := (bl_cell hu _ _ hb3).trans (XC.out 1 _ rfl); have x2 : u.cell? ⟨b, k * 3 + 2, none⟩ = some (.bool x.bad) := (bl_cell hu _ _ hb3).trans (XC.out 2 _ rfl)
    rcases (by omega : j = 0 ∨ j = 1 ∨ j = 2 ∨ j = 3 ∨ j = 4 ∨ j = 5 ∨ j = 6 ∨ j = 7 ∨ j = 8) with rfl | rfl | rfl | rfl | rfl | rfl | rfl | rfl | rfl
    · simp only [List.getElem?_toArray, List.getElem?_cons_zero, List.getElem?_cons_succ, Option.some.injEq] at ho
      subst ho
      obtain rfl := Option.some.inj hdt
      have i6 : act.eval (.tmp (6 : Nat)) = .slice (some ⟨g, 0, none⟩) l l := hfr 6 (by decide)
      exact plain_wp (by intro c h; cases h) (fun _ _ => trivial) (by simp only [execOp, i6, evalC, evalF, evalG]; simp [go_sem]) ⟨_, rfl, rfl, Bl.refl _⟩
    · simp only [List.getElem?_toArray, List.getElem?_cons_zero, List.getElem?_cons_succ, Option.some.injEq] at ho
      subst ho
      obtain rfl := Option.some.inj hdt
      have i4 : act.eval (.tmp (4 : Nat)) = .slice (some ⟨b, k * 3, none⟩) l cx := hfr 4 (by decide)
      exact plain_wp (by intro c h; cases h) (fun _ _ => trivial) (by simp only [execOp, i4, evalC, evalF, evalG]; simp [go_sem]) ⟨_, rfl, rfl, Bl.refl _⟩
    · simp only [List.getElem?_toArray, List.getElem?_cons_zero, List.getElem?_cons_succ, Option.some.injEq] at ho
      subst ho
      obtain rfl := Option.some.inj hdt
      have i26 : (act.eval (.tmp (26 : Nat))) = .slice (some ⟨b, k * 3, none⟩) l cx := hin ⟨1, .data⟩ (by simp) rfl 26 rfl
      exact plain_wp (by intro c h; cases h) (fun _ _ => trivial) (by simp only [execOp, i26, evalC, evalF, evalG]; simp [go_sem, c0, c1, c2, x0, x1, x2, hl1]) ⟨_, rfl, rfl, Bl.refl _⟩
    · simp only [List.getElem?_toArray, List.getElem?_cons_zero, List.getElem?_cons_succ, Option.some.injEq] at ho
      subst ho
      obtain rfl := Option.some.inj hdt
      have i27 : (act.eval (.tmp (27 : Nat))) = .pointer (some ⟨b, k * 3, none⟩) := hin ⟨2, .data⟩ (by simp) rfl 27 rfl
      exact plain_wp (by intro c h; cases h) (fun _ _ => trivial) (by simp only [execOp, i27, evalC, evalF, evalG]; simp [go_sem, c0, c1, c2, x0, x1, x2, hl1]) ⟨_, rfl, rfl, Bl.refl _⟩
    · simp only [List.getElem?_toArray, List.getElem?_cons_zero, List.getElem?_cons_succ, Option.some.injEq] at ho
      subst ho
      obtain rfl := Option.some.inj hdt
      have i28 : (act.eval (.tmp (28 : Nat))) = frV x := hin ⟨3, .data⟩ (by simp) rfl 28 rfl
      exact plain_wp (by intro c h; cases h) (fun _ _ => trivial) (by simp only [execOp, i28, evalC, evalF, evalG]; simp [go_sem, c0, c1, c2, x0, x1, x2, hl1]) ⟨_, rfl, rfl, Bl.refl _⟩
    · simp only [List.getElem?_toArray, List.getElem?_cons_zero, List.getElem?_cons_succ, Option.some.injEq] at ho
      subst ho
      obtain rfl := Option.some.inj hdt
      have i5 : act.eval (.tmp (5 : Nat)) = .pointer (some ⟨w1.heap.size, 0, none⟩) := hfr 5 (by decide)
      exact plain_wp (by intro c h; cases h) (fun _ _ => trivial) (by simp only [execOp, i5, evalC, evalF, evalG]; simp [go_sem, c0, c1, c2, x0, x1, x2, hl1]) ⟨_, rfl, rfl, Bl.refl _⟩
    · simp only [List.getElem?_toArray, List.getElem?_cons_zero, List.getElem?_cons_succ, Option.some.injEq] at ho
      subst ho
      obtain rfl := Option.some.inj hdt
      have i29 : (act.eval (.tmp (29 : Nat))) = .iface 66 (frV x) := hin ⟨4, .data⟩ (by simp) rfl 29 rfl
      have i30 : (act.eval (.tmp (30 : Nat))) = frV p := hin ⟨5, .data⟩ (by simp) rfl 30 rfl
      have iv := Tryz.mSubF
      refine enter_wp 231 #[frV x, frV p] (by intro c h; cases h) (fun _ _ => trivial) (by simp only [execOp, evalC, evalF, evalG, resolve, i29, i30, List.map_toArray, List.map_cons, List.map_nil]; simp [invoke, iv, egS, Result.andThen, go_sem]) (by intro h; cases h) (callsIn_wide.2 (SUB.out u)) ?_
      rintro e w' ⟨rfl, hb⟩
      exact ⟨_, rfl, _, rfl, rfl, hb⟩
    · simp only [List.getElem?_toArray, List.getElem?_cons_zero, List.getElem?_cons_succ, Option.some.injEq] at ho
      subst ho
      obtain rfl := Option.some.inj hdt
      have i25 : (act.eval (.tmp (25 : Nat))) = .slice (some ⟨g, 0, none⟩) l l := hin ⟨0, .data⟩ (by simp) rfl 25 rfl
      exact plain_wp (by intro c h; cases h) (fun _ _ => trivial) (by simp only [execOp, i25, evalC, evalF, evalG]; simp [go_sem, c0, c1, c2, x0, x1, x2, hl1]) ⟨_, rfl, rfl, Bl.refl _⟩
    · simp only [List.getElem?_toArray, List.getElem?_cons_zero, List.getElem?_cons_succ, Option.some.injEq] at ho
      subst ho
      cases hdt
  case still =>
    intro j o t act u0 u ho hdt hpu
    cases hpu
  case store =>
    intro o act u vs ho hsz hu hfr hin
    simp only [List.getElem?_toArray, List.getElem?_cons_zero, List.getElem?_cons_succ, Option.some.injEq] at ho
    subst ho
    obtain ⟨i31, k31⟩ : act.eval (.tmp (31 : Nat)) = vs 6 ∧ ((vs 6) = frV y) := hin 6 31 rfl rfl
    obtain ⟨i32, k32⟩ : act.eval (.tmp (32 : Nat)) = vs 7 ∧ ((vs 7) = .pointer (some ⟨g, 0, none⟩)) := hin 7 32 rfl rfl
    rw [k31] at i31
    rw [k32] at i32
    have z0 : u.cell? ⟨g, 0, none⟩ = some (.int .i64 x.n) := (bl_cell hu _ _ hg3).trans (GC.out 0 _ rfl); have e0 : u.frozen? ⟨g, 0, none⟩ = false := (bl_froz hu _ _ hg3).trans (GF.out 0); have z1 : u.cell? ⟨g, 1, none⟩ = some (.int .i64 x.d) := (bl_cell hu _ _ hg3).trans (GC.out 1 _ rfl); have e1 : u.frozen? ⟨g, 1, none⟩ = false := (bl_froz hu _ _ hg3).trans (GF.out 1); have z2 : u.cell? ⟨g, 2, none⟩ = some (.bool x.bad) := (bl_cell hu _ _ hg3).trans (GC.out 2 _ rfl); have e2 : u.frozen? ⟨g, 2, none⟩ = false := (bl_froz hu _ _ hg3).trans (GF.out 2)
    exact skip_wp (by intro c h; cases h) (fun _ _ => trivial) (by simp only [execOp, i31, i32]; simp [go_sem, z0, e0, z1, e1, z2, e2]; rfl) ⟨rfl, rfl⟩
  case fin =>
    intro vs vb u0 u hu hin hps
    have a0 := hin 0 25 rfl
    have a1 := hin 1 26 rfl
    have a2 := hin 2 27 rfl
    have a3 := hin 3 28 rfl
    have a4 := hin 4 29 rfl
    have a5 := hin 5 30 rfl
    have a6 := hin 6 31 rfl
    have a7 := hin 7 32 rfl
    simp only [putL, Act.put, List.setIfInBounds_toArray, List.set_cons_zero, List.set_cons_succ, Nat.zero_add, Nat.reduceAdd, Nat.reduceBEq, Bool.or_false, Bool.or_true, Bool.false_or, Bool.true_or, Bool.false_eq_true, if_false, if_true, reduceIte, Nat.reduceEqDiff, beq_self_eq_true, Bool.or_self] at a0 a1 a2 a3 a4 a5 a6 a7 ⊢
    rw [if_pos (by decide)] at hps
    simp only [a0, a1, a2, a3, a4, a5, a6, a7]
    have hb0u : But (InT B n) w u0 := (But.of_bl (w03.out)).trans (But.of_bl hu)
    have hgu := Nat.lt_of_lt_of_le hg3 hu.size
    have hu' : Bl w u := by rw [hps]; exact bl_setCells (w03.out.trans hu) hgw (cellsF y) 0
    have TB5 := hideP (HH.out.later hu')
    have kp5 : FBox u w1.heap.size p := by rw [hps]; exact (kp3.later hu).setc (by have := HG.out; omega) _ _
    have VR5 := hideP (show RwZ 3 cellsF u w.heap.size (.slice (some ⟨g, 0, none⟩) l l) (tailH m k (vH kdF m k (lowFr (a k k)) a)) by
      rw [hps, VT.out]
      have q := VR.out.later hu
      rw [XT.out] at q
      exact (RwZ.put0 cellsF_len q).base (Nat.le_refl _))
    clear hps hb0u
    have DOT := hideP (fun w' (hh : Bl u w') => by have := vDotF (.slice (some ⟨g, 0, none⟩) l l) (.slice (some ⟨g, 0, none⟩) l l) _ _ w' (VR5.out.rw.later hh).q (VR5.out.rw.later hh).q (by rw [tail_len]; omega) (by rw [tail_len]; omega); rw [← HQ.out] at this; exact this)
    clear XC GC GF VR
    go_wp2_with fail
    refine (DOT.out _ (Bl.refl _)).mono ?_
    rintro e w6 ⟨rfl, h6⟩
    obtain ⟨W6, hW6⟩ : ∃ W6, W6 = w6.alloc (.cells #[.int .i64 q.n, .int .i64 q.d, .bool q.bad] 66) := ⟨_, rfl⟩
    have b6 : Bl w6 W6 := by rw [hW6]; exact (Bl.refl _).alloc _
    have k6 := FBox.new w6 q 66
    rw [← hW6] at k6
    have h6u : Bl u W6 := h6.trans b6
    have HW6 := hideP hW6
    clear hW6 DOT
    have PI := hideP (show ¬ InT B n w1.heap.size from by
      rintro ⟨i, hi', e⟩
      have := HH.out.blt i hi'
      have := h1.size
      omega)
    have QI := hideP (show ¬ InT B n w6.heap.size from by
      rintro ⟨i, hi', e⟩
      have := HH.out.blt i hi'
      have := (hu'.trans h6).size
      omega)
    have kp6 := kp5.later h6u
    have hg6 : g < W6.heap.size := Nat.lt_of_lt_of_le VR5.out.glt h6u.size
    have TB6 := hideP (TB5.out.later h6u)
    have VR6 := hideP (VR5.out.later h6u)
    have wW6 : Bl w W6 := hu'.trans h6u
    clear TB5 VR5 kp5
    go_wp2_with fail
    rw [← HW6.out]
    go_loopw [41] (fun v wr => ∃ j : Nat, v = .int .i64 j ∧ j ≤ n - (k + 1) ∧ Tbl 3 cellsF wr H B cp n m (partH k j (foldStep kdF m k (lowFr (a k k)) a) a) ∧ But (InT B n) W6 wr) (fun v _ => n - (intOf v).toNat)
    case atStart => exact ⟨0, rfl, Nat.zero_le _, by rw [partH_zero]; exact TB6.out, But.refl _ _⟩
    case round =>
      obtain ⟨j, rfl, hj, tb, bt⟩ := hrel
      have TB := hideP tb
      clear tb
      by_cases hlt : j < n - (k + 1)
      · have hk1 : k + 1 < n := by omega
        have hin : k + 1 + j < n := by omega
        have pe := hpe hk1
        subst pe
        obtain ⟨bi, hbi⟩ : ∃ bi, bi = B (k + 1 + j) := ⟨_, rfl⟩
        obtain ⟨ci, hci⟩ : ∃ ci, ci = cp (k + 1 + j) := ⟨_, rfl⟩
        have hdr := TB.out.hdr (k + 1 + j) hin
        have hcapi := TB.out.cap (k + 1 + j) hin
        have hpart := TB.out.part hin hkm
        have eqr : partH k j (foldStep kdF m k (lowFr (a k k)) a) a (k + 1 + j) = a (k + 1 + j) := by
          funext c
          unfold partH
          rw [if_neg (by omega)]
        rw [eqr] at hpart
        rw [← hbi, ← hci] at hdr hpart
        rw [← hci] at hcapi
        rw [← HLL.out] at hpart
        have sl := fun u => Tryz.restF bi m ci k u hkm hcapi (by omega)
        rw [← HLL.out] at sl
        have LESS := hideP (hLessF (.slice (some ⟨bi, k * 3, none⟩) l (ci - k)) (.slice (some ⟨g, 0, none⟩) l l) (tailH m k (a (k + 1 + j))) (tailH m k (vH kdF m k (lowFr (a k k)) a)) q wr hpart (VR6.out.but bt (fun g' hg' => by cases hg'; exact GI.out)).rw (by rw [tail_len]; omega) (by rw [tail_len]; omega))
        rw [show lessH kdF (tailH m k (a (k + 1 + j))) (tailH m k (vH kdF m k (lowFr (a k k)) a)) q = tailH m k (foldStep kdF m k (lowFr (a k k)) a (k + 1 + j)) by rw [HQ.out]; exact less_get kdF m k _ a _ (by omega)] at LESS
        have HBI := hideP hbi
        have HCI := hideP hci
        obtain ⟨d0, d1, d2, g0, g1, g2, ltq⟩ := k6.but bt QI.out
        clear hbi hci eqr hpart
        go_wp2_with fail
        refine LESS.out.mono ?_
        rintro e w7 ⟨u7, rfl, hr7, h7⟩
        obtain ⟨p7, c7, rfl, hcc7, _⟩ := hr7.cut
        have hl7 : (tailH m k (foldStep kdF m k (lowFr (a k k)) a (k + 1 + j))).length = l := by rw [tail_len, HLL.out]
        rw [hl7] at hr7 hcc7 ⊢
        obtain ⟨b7, o7, rfl, hx7⟩ : ∃ b7 o7, p7 = some ⟨b7, o7, none⟩ ∧ ∀ t u, ((tailH m k (foldStep kdF m k (lowFr (a k k)) a (k + 1 + j))).flatMap cellsF)[t]? = some u → w7.cell? ((⟨b7, o7, none⟩ : Addr).add t) = some u := by
          rcases hr7 with ⟨e1, e2⟩ | ⟨b7, o7, cap7, e1, _, _, hx⟩
          · rw [e2] at hl7; simp at hl7; omega
          · cases e1
            exact ⟨b7, o7, rfl, flat_cells cellsF_len hx⟩
        obtain ⟨cs7, hcs7⟩ : ∃ cs7, cs7 = (tailH m k (foldStep kdF m k (lowFr (a k k)) a (k + 1 + j))).flatMap cellsF := ⟨_, rfl⟩
        have tb7 := TB.out.later h7
        have put7 := tb7.put cellsF_len (b := partH k (j + 1) (foldStep kdF m k (lowFr (a k k)) a) a) (i := k + 1 + j) (k := k) (xs := tailH m k (foldStep kdF m k (lowFr (a k k)) a (k + 1 + j))) hin (by rw [hl7, HLL.out]; omega)
          (fun c hc => by rw [hl7, HLL.out] at hc; rw [tail_get _ hc]; unfold partH; rw [if_pos (by omega)])
          (fun i' c hi' hc hne => by
            rw [hl7, HLL.out] at hne
            unfold partH
            by_cases h1 : k < i' ∧ i' ≤ k + j
            · rw [if_pos h1, if_pos (by omega)]
            · rw [if_neg h1]
              by_cases h2 : k < i' ∧ i' ≤ k + (j + 1)
              · rw [if_pos h2]
                have : i' = k + 1 + j := by omega
                subst this
                unfold foldStep
                rw [if_neg (by omega), if_neg (by omega)]
              · rw [if_neg h2])
        have sm7 := tb7.somes cellsF_len (i := k + 1 + j) (k := k) (xs := tailH m k (foldStep kdF m k (lowFr (a k k)) a (k + 1 + j))) hin (by rw [hl7, HLL.out]; omega)
        have fz7 := fun o => tb7.froz (k + 1 + j) hin o
        have len7 : cs7.length = l * 3 := by rw [hcs7, flat_len cellsF_len, hl7]
        have one7 : ∀ v ∈ cs7, v.oneCell' = true := by rw [hcs7]; exact flat_one oneF_cells _
        rw [← hcs7] at put7 sm7 hx7
        rw [← HBI.out] at put7 sm7 fz7
        have PUT7 := hideP put7
        have SM7 := hideP sm7
        have HX7 := hideP hx7
        have bt7 : But (InT B n) W6 w7 := bt.trans (But.of_bl h7)
        clear put7 sm7 hx7 hcs7 hr7 LESS tb7 d0 d1 d2 g0 g1 g2 hdr sl
        go_wp2_with (show wpList _ _ _ (Oper.mk _ (Op.call { callee := .builtin .copy, args := _, argTypes := _ }) _ _ _ _ :: _) _ _; refine wpList_copy_s rfl _ _ _ _ rfl 66 Tryz.underlying60 3 SZ.out bi (k * 3) l (ci - k) ⟨b7, o7, none⟩ l c7 rfl rfl l cs7 (Nat.min_self _) len7 HX7.out SM7.out (fun j _ => fz7 _) one7 ?_; intro w8 hw8)
        have TB8 := hideP (show Tbl 3 cellsF w8 H B cp n m (partH k (j + 1) (foldStep kdF m k (lowFr (a k k)) a) a) by rw [hw8.out]; exact PUT7.out.1)
        have bt8 : But (InT B n) W6 w8 := bt7.trans (by rw [hw8.out]; exact PUT7.out.2)
        clear hw8 PUT7 SM7 HX7 fz7
        go_wp2
        go_roundw
        case rel => exact ⟨j + 1, by simp, hlt, TB8.out, bt8⟩
        case measure => simp [intOf]; omega
      · obtain rfl : j = n - (k + 1) := by omega
        have PE := hideP (fun i c => show partH k (n - (k + 1)) (foldStep kdF m k (lowFr (a k k)) a) a i c = if k < i ∧ i ≤ k + (n - (k + 1)) then foldStep kdF m k (lowFr (a k k)) a i c else a i c from rfl)
        have kpr := kp6.but bt PI.out
        obtain ⟨c0, c1, c2, f0, f1, f2, ltp⟩ := id kpr
        go_wp2_with (at_make; refine wpList_make_full _ rfl _ _ 50 rfl wr.heap.size 3 j0 (.int .i64 0) 1 Tryz.underlying50 hji jz0 jz1 .i64 .i64 _ _ l rfl rfl (by simp) (by simp) (by rw [jz2]; omega) (by unfold maxLen; omega) (Nat.le_refl _) ?_; intro w9 hown9 hgrow9)
        have h9 : Bl wr w9 := ⟨hgrow9.os, hgrow9.tape, hgrow9.output, hgrow9.size, fun k hk => hgrow9.block k hk nofun⟩
        have R9 := hideP (show Rw 1 (fun n : Int => [.int .i64 n]) w9 (.slice (some ⟨wr.heap.size, 0, none⟩) l l) (List.replicate l (0 : Int)) from Rw.of_own (c := cellsI) (fun _ => rfl) (xs := List.replicate l (0 : Int)) (by have := hown9; rw [zeros_made] at this; simpa using this))
        clear hown9 hgrow9 c0 c1 c2 f0 f1 f2
        refine (vWholeF _ (List.replicate l (0 : Int)) _ R9.out.q (by simp; omega)).mono ?_
        rintro e w10 ⟨u10, rfl, hr10, h10⟩
        obtain ⟨p10, c10, rfl, hcc10, _⟩ := hr10.cut
        have hl10 : ((List.replicate l (0 : Int)).map wholeF).length = l := by simp
        rw [hl10] at hr10 hcc10 ⊢
        obtain ⟨b10, o10, rfl, hx10⟩ : ∃ b7 o7, p10 = some ⟨b7, o7, none⟩ ∧ ∀ j u, (((List.replicate l (0 : Int)).map wholeF).flatMap cellsF)[j]? = some u → w10.cell? ((⟨b7, o7, none⟩ : Addr).add j) = some u := by
          rcases hr10 with ⟨e1, e2⟩ | ⟨b7, o7, cap7, e1, _, _, hx⟩
          · rw [e2] at hl10; simp at hl10; omega
          · simp only [Value.slice.injEq] at e1
            obtain ⟨rfl, _, _⟩ := e1
            exact ⟨b7, o7, rfl, flat_cells cellsF_len hx⟩
        obtain ⟨cs10, hcs10⟩ : ∃ cs10, cs10 = ((List.replicate l (0 : Int)).map wholeF).flatMap cellsF := ⟨_, rfl⟩
        have tb10 := TB.out.later (h9.trans h10)
        have put10 := tb10.put cellsF_len (b := fun i c => if i = k then (if c < k then a i c else kdF.z) else foldStep kdF m k (lowFr (a k k)) a i c) (i := k) (k := k) (xs := (List.replicate l (0 : Int)).map wholeF) hk (by rw [hl10, HLL.out]; omega)
          (fun c hc => by rw [hl10] at hc; rw [if_pos rfl, if_neg (by omega), List.getElem?_map, List.getElem?_replicate, if_pos hc]; rfl)
          (fun i' c hi' hc hne => by
            rw [hl10, HLL.out] at hne
            show (if i' = k then (if c < k then a i' c else kdF.z) else foldStep kdF m k (lowFr (a k k)) a i' c) = partH k (n - (k + 1)) (foldStep kdF m k (lowFr (a k k)) a) a i' c
            unfold partH
            by_cases h1 : i' = k
            · subst h1
              rw [if_pos rfl, if_pos (by omega), if_neg (by omega)]
            · rw [if_neg h1]
              by_cases h2 : k < i'
              · rw [if_pos (by omega)]
              · rw [if_neg (by omega)]
                unfold foldStep
                rw [if_neg h1, if_neg (by omega)])
        have sm10 := tb10.somes cellsF_len (i := k) (k := k) (xs := (List.replicate l (0 : Int)).map wholeF) hk (by rw [hl10, HLL.out]; omega)
        have fz10 := fun o => tb10.froz k hk o
        have len10 : cs10.length = l * 3 := by rw [hcs10, flat_len cellsF_len, hl10]
        have one10 : ∀ v ∈ cs10, v.oneCell' = true := by rw [hcs10]; exact flat_one oneF_cells _
        rw [← hcs10] at put10 sm10 hx10
        rw [← HBE.out] at put10 sm10 fz10
        have PUT10 := hideP put10
        have SM10 := hideP sm10
        have HX10 := hideP hx10
        have bt10 : But (InT B n) W6 w10 := bt.trans (But.of_bl (h9.trans h10))
        have kp10 := kpr.later (h9.trans h10)
        clear put10 sm10 hx10 hcs10 hr10 tb10 R9 kpr
        go_wp2_with (show wpList _ _ _ (Oper.mk _ (Op.call { callee := .builtin .copy, args := _, argTypes := _ }) _ _ _ _ :: _) _ _; refine wpList_copy_s rfl _ _ _ _ rfl 66 Tryz.underlying60 3 SZ.out b (k * 3) l cx ⟨b10, o10, none⟩ l c10 rfl rfl l cs10 (Nat.min_self _) len10 HX10.out SM10.out (fun j _ => fz10 _) one10 ?_; intro w11 hw11; have TB11 := hideP (show Tbl 3 cellsF w11 H B cp n m (fun i c => if i = k then (if c < k then a i c else kdF.z) else foldStep kdF m k (lowFr (a k k)) a i c) by rw [hw11.out]; exact PUT10.out.1); have bt11 : But (InT B n) W6 w11 := bt10.trans (by rw [hw11.out]; exact PUT10.out.2); have kp11 : FBox w11 w1.heap.size p := by { rw [hw11.out]; exact kp10.setc (by rw [HBE.out]; exact fun e => PI.out ⟨k, hk, e⟩) _ _ }; obtain ⟨c0, c1, c2, f0, f1, f2, ltp⟩ := id kp11; obtain ⟨z, hz⟩ : ∃ z, z = kdF.z := ⟨_, rfl⟩; have ZC := hideP (show ∀ i u, (cellsF z)[i]? = some u → w11.cell? ⟨b, k * 3 + i, none⟩ = some u by { intro i u hu; have := TB11.out.cells k k hk (by omega) i u (by rw [if_pos rfl, if_neg (by omega), ← hz]; exact hu); rw [← HBE.out] at this; exact this }); have z0 : w11.cell? ⟨b, k * 3, none⟩ = some (.int .i64 z.n) := ZC.out 0 _ rfl; have e0 : w11.frozen? ⟨b, k * 3, none⟩ = false := by { have := TB11.out.froz k hk (k * 3); rw [← HBE.out] at this; exact this }; have z1 : w11.cell? ⟨b, k * 3 + 1, none⟩ = some (.int .i64 z.d) := ZC.out 1 _ rfl; have e1 : w11.frozen? ⟨b, k * 3 + 1, none⟩ = false := by { have := TB11.out.froz k hk (k * 3 + 1); rw [← HBE.out] at this; exact this }; have z2 : w11.cell? ⟨b, k * 3 + 2, none⟩ = some (.bool z.bad) := ZC.out 2 _ rfl; have e2 : w11.frozen? ⟨b, k * 3 + 2, none⟩ = false := by { have := TB11.out.froz k hk (k * 3 + 2); rw [← HBE.out] at this; exact this }; clear hz hw11 PUT10 SM10 HX10 fz10)
        have PUT12 := hideP (TB11.out.put cellsF_len (b := foldStep kdF m k (lowFr (a k k)) a) (i := k) (k := k) (xs := [p]) hk (by simp; omega)
          (fun c hc => by
            have : c = 0 := by simpa using hc
            subst this
            rw [Nat.add_zero]
            unfold foldStep
            rw [if_pos rfl, if_pos rfl, HP.out]; rfl)
          (fun i' c hi' hc hne => by
            simp only [List.length_singleton] at hne
            show foldStep kdF m k (lowFr (a k k)) a i' c = if i' = k then (if c < k then a i' c else kdF.z) else foldStep kdF m k (lowFr (a k k)) a i' c
            by_cases h1 : i' = k
            · subst h1
              rw [if_pos rfl]
              unfold foldStep
              rw [if_pos rfl]
              by_cases h2 : c < i'
              · rw [if_pos h2, if_neg (by omega), if_neg (by omega)]
              · rw [if_neg h2, if_neg (by omega), if_pos (by omega)]
            · rw [if_neg h1]))
        rw [← HBE.out] at PUT12
        go_end0
        exact ⟨⟨_, rfl⟩, PUT12.out.1, (But.of_bl wW6).trans (bt11.trans PUT12.out.2)⟩
end Go.Proofs.YtlbmkjicbkfmjaaGreat

/- Contract of house's negate, of fractions (layer 8). Written by genHu.py. -/
namespace Go.Proofs.YtlbmkjicbkfmjaaGreat
open Go.RowKit Go.Shelf
set_option linter.unusedSimpArgs false
set_option linter.unusedVariables false
attribute [local go_sem] Oper.semAt_some

set_option maxRecDepth 100000 in
set_option maxHeartbeats 4000000 in
theorem hNegateF (n g N cap : Nat) (f : Nat → Nat → Fr) (w : World) (lo : Nat) (hd : Dim n n) (hN : N = n * n) (h : RwZ 3 cellsF w lo (.slice (some ⟨g, 0, none⟩) N cap) (mk n n f)) (k : Nat) (hkn : k < n) :
    Calls Tryz.prog 164 #[mV n n (some ⟨g, 0, none⟩) N cap, .int .i64 k] w fun e w' => (∃ v, e = .returned v) ∧ RwZ 3 cellsF w' lo (.slice (some ⟨g, 0, none⟩) N cap) (mk n n (negTo negR k n f)) ∧ But (fun b => b = g) w w' := by
  have fm : Tryz.prog.follows .mixedOrders = true := by kernel_rfl
  have egA := enters_of Tryz.func47 (by kernel_rfl) rfl
  have egN := enters_of Tryz.func227 (by kernel_rfl) rfl
  have hn16 := hd.r2
  have HN := hideP hN
  have HD := hideP hd
  obtain ⟨W, hW⟩ : ∃ W, W = w.alloc (.cells #[.int .i64 n, .int .i64 n, .slice (some ⟨g, 0, none⟩) N cap] 62) := ⟨_, rfl⟩
  have b0 : Bl w W := by rw [hW]; exact (Bl.refl _).alloc _
  have m0 : MBox W w.heap.size n n (some ⟨g, 0, none⟩) N cap := by rw [hW]; exact MBox.new w _ _ _ _ _ _
  have hglt := h.glt
  have H0 := hideP (show RwZ 3 cellsF W lo (.slice (some ⟨g, 0, none⟩) N cap) (mk n n (negTo negR k k f)) by rw [mk_congr (fun i j _ _ => show negTo negR k k f i j = f i j from if_neg (by omega))]; exact h.later b0)
  have HW := hideP hW
  clear hW h hd hN
  go_enter Tryz.func164, Tryz.ntmps164
  go_wp2_with fail
  rw [← HW.out]
  go_loopw [4] (fun v wr => ∃ i : Nat, v = .int .i64 i ∧ k ≤ i ∧ i ≤ n ∧ RwZ 3 cellsF wr lo (.slice (some ⟨g, 0, none⟩) N cap) (mk n n (negTo negR k i f)) ∧ But (fun b => b = g) W wr) (fun v _ => n - (intOf v).toNat)
  case atStart => exact ⟨k, rfl, Nat.le_refl _, by omega, H0.out, But.refl _ _⟩
  case round =>
    obtain ⟨i, rfl, hki, hin, hr, bt⟩ := hrel
    have HR := hideP hr
    clear hr
    have mb : MBox wr w.heap.size n n (some ⟨g, 0, none⟩) N cap := mbox_block m0 (bt.block _ m0.lt (by show ¬ w.heap.size = g; omega)) bt.size
    by_cases hlt : i < n
    · obtain ⟨a, q, e1, e2, hq1, hq3, hq5, hq6⟩ := place HD.out hlt hkn
      rw [← HN.out] at hq5
      have HP := hideP e2
      clear e1 e2
      obtain ⟨x, hx⟩ : ∃ x, x = negTo negR k i f i k := ⟨_, rfl⟩
      obtain ⟨y, hy⟩ : ∃ y, y = negR x := ⟨_, rfl⟩
      have AT := hideP (fun u (hu : Bl wr u) => mAtF n n (some ⟨g, 0, none⟩) N cap (negTo negR k i f) u ⟨HD.out, HN.out, (HR.out.later hu).rw.q⟩ i k hlt hkn)
      rw [← hx] at AT
      have NEG := hideP (fun u => by have := rneg_any x u; rw [← hy] at this; exact this)
      have HS := hideP (show negTo negR k (i + 1) f = putM (negTo negR k i f) i k y by rw [hy, hx]; exact negTo_next negR hki f)
      have CX := hideP (show ∀ j u, (cellsF x)[j]? = some u → wr.cell? ⟨g, q * 3 + j, none⟩ = some u from fun j u hu => by
        obtain ⟨g', c', e, _, _, _, _, hc⟩ := HR.out
        cases e
        exact hc q x (by rw [HP.out, mk_get _ hlt hkn, hx]) j u hu)
      have FZ := hideP (show ∀ j, wr.frozen? ⟨g, j, none⟩ = false from fun j => by
        obtain ⟨g', c', e, _, _, _, hf, _⟩ := HR.out
        cases e
        exact hf j)
      have hgl : g < wr.heap.size := HR.out.glt
      have WA : IntKind.i64.wrap (a : Int) = a := wrapS7 (by omega) (by have := HD.out.lt; have := HN.out; omega)
      have WQ : IntKind.i64.wrap (q : Int) = q := wrapS7 (by omega) (by have := HD.out.lt; have := HN.out; omega)
      clear hx hy
      obtain ⟨c0, c1, c2, f0, f1, f2, lt⟩ := id mb
      go_wp2_with fail
      refine (wpIn_wide (n := 8)).1 (region_q fm [some 12, some 13, some 14, some 15, some 16, some 17, some 18, some 19, some 20, some 21, some 22, some 23, some 24, some 25, some 26, none] (fun _ => false) 15 (by kernel_rfl) (by rfl)
        (fun j v u => match j with | 0 => v = .pointer (some ⟨w.heap.size, 2, none⟩) | 1 => v = .slice (some ⟨g, 0, none⟩) N cap | 2 => v = .int .i64 i | 3 => v = .pointer (some ⟨w.heap.size, 1, none⟩) | 4 => v = .int .i64 n | 5 => v = .int .i64 a | 6 => v = .int .i64 k | 7 => v = .int .i64 q | 8 => v = mV n n (some ⟨g, 0, none⟩) N cap | 9 => v = .int .i64 i | 10 => v = .int .i64 k | 11 => v = frV x | 12 => v = .iface 66 (frV x) | 13 => v = frV y | 14 => v = .pointer (some ⟨g, q * 3, none⟩) | _ => False)
        (fun j v u u' _ h => h) (fun vs u0 u => u = u0.setCells g (q * 3) (cellsF y)) ?step ?still ?store ?fin)
      case step =>
        intro j o t act u ho hdt hpu hsz hu hfr hin
        have hj : j < 16 := (Array.getElem?_eq_some_iff.1 ho).1
        obtain ⟨c0, c1, c2, f0, f1, f2, lt⟩ := mb.later hu
        rcases (by omega : j = 0 ∨ j = 1 ∨ j = 2 ∨ j = 3 ∨ j = 4 ∨ j = 5 ∨ j = 6 ∨ j = 7 ∨ j = 8 ∨ j = 9 ∨ j = 10 ∨ j = 11 ∨ j = 12 ∨ j = 13 ∨ j = 14 ∨ j = 15) with rfl | rfl | rfl | rfl | rfl | rfl | rfl | rfl | rfl | rfl | rfl | rfl | rfl | rfl | rfl | rfl
        · simp only [List.getElem?_toArray, List.getElem?_cons_zero, List.getElem?_cons_succ, Option.some.injEq] at ho
          subst ho
          obtain rfl := Option.some.inj hdt
          have i2 : act.eval (.tmp (2 : Nat)) = .pointer (some ⟨w.heap.size, 0, none⟩) := hfr 2 (by decide)
          exact plain_wp (by intro c h; cases h) (fun _ _ => trivial) (by simp only [execOp, i2, evalC, evalF, evalG]; simp [go_sem, c0, c1, c2, hq1, hq3, hq5, WA, WQ]) ⟨_, rfl, rfl, Bl.refl _⟩
        · simp only [List.getElem?_toArray, List.getElem?_cons_zero, List.getElem?_cons_succ, Option.some.injEq] at ho
          subst ho
          obtain rfl := Option.some.inj hdt
          have i12 : (act.eval (.tmp (12 : Nat))) = .pointer (some ⟨w.heap.size, 2, none⟩) := hin ⟨0, .data⟩ (by simp) rfl 12 rfl
          exact plain_wp (by intro c h; cases h) (fun _ _ => trivial) (by simp only [execOp, i12, evalC, evalF, evalG]; simp [go_sem, c0, c1, c2, hq1, hq3, hq5, WA, WQ]) ⟨_, rfl, rfl, Bl.refl _⟩
        · simp only [List.getElem?_toArray, List.getElem?_cons_zero, List.getElem?_cons_succ, Option.some.injEq] at ho
          subst ho
          obtain rfl := Option.some.inj hdt
          have i4 : act.eval (.tmp (4 : Nat)) = .int .i64 i := hfr 4 (by decide)
          exact plain_wp (by intro c h; cases h) (fun _ _ => trivial) (by simp only [execOp, i4, evalC, evalF, evalG]; simp [go_sem]) ⟨_, rfl, rfl, Bl.refl _⟩
        · simp only [List.getElem?_toArray, List.getElem?_cons_zero, List.getElem?_cons_succ, Option.some.injEq] at ho
          subst ho
          obtain rfl := Option.some.inj hdt
          have i2 : act.eval (.tmp (2 : Nat)) = .pointer (some ⟨w.heap.size, 0, none⟩) := hfr 2 (by decide)
          exact plain_wp (by intro c h; cases h) (fun _ _ => trivial) (by simp only [execOp, i2, evalC, evalF, evalG]; simp [go_sem, c0, c1, c2, hq1, hq3, hq5, WA, WQ]) ⟨_, rfl, rfl, Bl.refl _⟩
        · simp only [List.getElem?_toArray, List.getElem?_cons_zero, List.getElem?_cons_succ, Option.some.injEq] at ho
          subst ho
          obtain rfl := Option.some.inj hdt
          have i15 : (act.eval (.tmp (15 : Nat))) = .pointer (some ⟨w.heap.size, 1, none⟩) := hin ⟨3, .data⟩ (by simp) rfl 15 rfl
          exact plain_wp (by intro c h; cases h) (fun _ _ => trivial) (by simp only [execOp, i15, evalC, evalF, evalG]; simp [go_sem, c0, c1, c2, hq1, hq3, hq5, WA, WQ]) ⟨_, rfl, rfl, Bl.refl _⟩
        · simp only [List.getElem?_toArray, List.getElem?_cons_zero, List.getElem?_cons_succ, Option.some.injEq] at ho
          subst ho
          obtain rfl := Option.some.inj hdt
          have i14 : (act.eval (.tmp (14 : Nat))) = .int .i64 i := hin ⟨2, .data⟩ (by simp) rfl 14 rfl
          have i16 : (act.eval (.tmp (16 : Nat))) = .int .i64 n := hin ⟨4, .data⟩ (by simp) rfl 16 rfl
          exact plain_wp (by intro c h; cases h) (fun _ _ => trivial) (by simp only [execOp, i14, i16, evalC, evalF, evalG]; simp [go_sem, c0, c1, c2, hq1, hq3, hq5, WA, WQ]) ⟨_, rfl, rfl, Bl.refl _⟩
        · simp only [List.getElem?_toArray, List.getElem?_cons_zero, List.getElem?_cons_succ, Option.some.injEq] at ho
          subst ho
          obtain rfl := Option.some.inj hdt
          have i1 : act.eval (.tmp (1 : Nat)) = .int .i64 k := hfr 1 (by decide)
          exact plain_wp (by intro c h; cases h) (fun _ _ => trivial) (by simp only [execOp, i1, evalC, evalF, evalG]; simp [go_sem]) ⟨_, rfl, rfl, Bl.refl _⟩
        · simp only [List.getElem?_toArray, List.getElem?_cons_zero, List.getElem?_cons_succ, Option.some.injEq] at ho
          subst ho
          obtain rfl := Option.some.inj hdt
          have i17 : (act.eval (.tmp (17 : Nat))) = .int .i64 a := hin ⟨5, .data⟩ (by simp) rfl 17 rfl
          have i18 : (act.eval (.tmp (18 : Nat))) = .int .i64 k := hin ⟨6, .data⟩ (by simp) rfl 18 rfl
          exact plain_wp (by intro c h; cases h) (fun _ _ => trivial) (by simp only [execOp, i17, i18, evalC, evalF, evalG]; simp [go_sem, c0, c1, c2, hq1, hq3, hq5, WA, WQ]) ⟨_, rfl, rfl, Bl.refl _⟩
        · simp only [List.getElem?_toArray, List.getElem?_cons_zero, List.getElem?_cons_succ, Option.some.injEq] at ho
          subst ho
          obtain rfl := Option.some.inj hdt
          have i2 : act.eval (.tmp (2 : Nat)) = .pointer (some ⟨w.heap.size, 0, none⟩) := hfr 2 (by decide)
          exact plain_wp (by intro c h; cases h) (fun _ _ => trivial) (by simp only [execOp, i2, evalC, evalF, evalG]; simp [go_sem, c0, c1, c2, hq1, hq3, hq5, WA, WQ]) ⟨_, rfl, rfl, Bl.refl _⟩
        · simp only [List.getElem?_toArray, List.getElem?_cons_zero, List.getElem?_cons_succ, Option.some.injEq] at ho
          subst ho
          obtain rfl := Option.some.inj hdt
          have i4 : act.eval (.tmp (4 : Nat)) = .int .i64 i := hfr 4 (by decide)
          exact plain_wp (by intro c h; cases h) (fun _ _ => trivial) (by simp only [execOp, i4, evalC, evalF, evalG]; simp [go_sem]) ⟨_, rfl, rfl, Bl.refl _⟩
        · simp only [List.getElem?_toArray, List.getElem?_cons_zero, List.getElem?_cons_succ, Option.some.injEq] at ho
          subst ho
          obtain rfl := Option.some.inj hdt
          have i1 : act.eval (.tmp (1 : Nat)) = .int .i64 k := hfr 1 (by decide)
          exact plain_wp (by intro c h; cases h) (fun _ _ => trivial) (by simp only [execOp, i1, evalC, evalF, evalG]; simp [go_sem]) ⟨_, rfl, rfl, Bl.refl _⟩
        · simp only [List.getElem?_toArray, List.getElem?_cons_zero, List.getElem?_cons_succ, Option.some.injEq] at ho
          subst ho
          obtain rfl := Option.some.inj hdt
          have i20 : (act.eval (.tmp (20 : Nat))) = mV n n (some ⟨g, 0, none⟩) N cap := hin ⟨8, .data⟩ (by simp) rfl 20 rfl
          have i21 : (act.eval (.tmp (21 : Nat))) = .int .i64 i := hin ⟨9, .data⟩ (by simp) rfl 21 rfl
          have i22 : (act.eval (.tmp (22 : Nat))) = .int .i64 k := hin ⟨10, .data⟩ (by simp) rfl 22 rfl
          refine enter_wp 47 #[mV n n (some ⟨g, 0, none⟩) N cap, .int .i64 i, .int .i64 k] (by intro c h; cases h) (fun _ _ => trivial) (by simp only [execOp, evalC, evalF, evalG, resolve, i20, i21, i22, List.map_toArray, List.map_cons, List.map_nil]; simp [invoke, egA, Result.andThen, go_sem]) (by intro h; cases h) (callsIn_wide.2 (AT.out u hu)) ?_
          rintro e w' ⟨rfl, hb⟩
          exact ⟨_, rfl, _, rfl, rfl, hb⟩
        · simp only [List.getElem?_toArray, List.getElem?_cons_zero, List.getElem?_cons_succ, Option.some.injEq] at ho
          subst ho
          obtain rfl := Option.some.inj hdt
          have i23 : (act.eval (.tmp (23 : Nat))) = frV x := hin ⟨11, .data⟩ (by simp) rfl 23 rfl
          exact plain_wp (by intro c h; cases h) (fun _ _ => trivial) (by simp only [execOp, i23, evalC, evalF, evalG]; simp [go_sem, c0, c1, c2, hq1, hq3, hq5, WA, WQ]) ⟨_, rfl, rfl, Bl.refl _⟩
        · simp only [List.getElem?_toArray, List.getElem?_cons_zero, List.getElem?_cons_succ, Option.some.injEq] at ho
          subst ho
          obtain rfl := Option.some.inj hdt
          have i24 : (act.eval (.tmp (24 : Nat))) = .iface 66 (frV x) := hin ⟨12, .data⟩ (by simp) rfl 24 rfl
          have iv := Tryz.hNegF
          refine enter_wp 227 #[frV x] (by intro c h; cases h) (fun _ _ => trivial) (by simp only [execOp, evalC, evalF, evalG, resolve, i24, List.map_toArray, List.map_cons, List.map_nil]; simp [invoke, iv, egN, Result.andThen, go_sem]) (by intro h; cases h) (callsIn_wide.2 (NEG.out u)) ?_
          rintro e w' ⟨rfl, hb⟩
          exact ⟨_, rfl, _, rfl, rfl, hb⟩
        · simp only [List.getElem?_toArray, List.getElem?_cons_zero, List.getElem?_cons_succ, Option.some.injEq] at ho
          subst ho
          obtain rfl := Option.some.inj hdt
          have i13 : (act.eval (.tmp (13 : Nat))) = .slice (some ⟨g, 0, none⟩) N cap := hin ⟨1, .data⟩ (by simp) rfl 13 rfl
          have i19 : (act.eval (.tmp (19 : Nat))) = .int .i64 q := hin ⟨7, .data⟩ (by simp) rfl 19 rfl
          exact plain_wp (by intro c h; cases h) (fun _ _ => trivial) (by simp only [execOp, i13, i19, evalC, evalF, evalG]; simp [go_sem, c0, c1, c2, hq1, hq3, hq5, WA, WQ]) ⟨_, rfl, rfl, Bl.refl _⟩
        · simp only [List.getElem?_toArray, List.getElem?_cons_zero, List.getElem?_cons_succ, Option.some.injEq] at ho
          subst ho
          cases hdt
      case still =>
        intro j o t act u0 u ho hdt hpu
        cases hpu
      case store =>
        intro o act u vs ho hsz hu hfr hin
        simp only [List.getElem?_toArray, List.getElem?_cons_zero, List.getElem?_cons_succ, Option.some.injEq] at ho
        subst ho
        obtain ⟨i25, k25⟩ : act.eval (.tmp (25 : Nat)) = vs 13 ∧ ((vs 13) = frV y) := hin 13 25 rfl rfl
        obtain ⟨i26, k26⟩ : act.eval (.tmp (26 : Nat)) = vs 14 ∧ ((vs 14) = .pointer (some ⟨g, q * 3, none⟩)) := hin 14 26 rfl rfl
        have y0 : u.cell? ⟨g, q * 3, none⟩ = some (.int .i64 x.n) := (bl_cell hu _ _ hgl).trans (CX.out 0 _ rfl); have e0 : u.frozen? ⟨g, q * 3, none⟩ = false := (bl_froz hu _ _ hgl).trans (FZ.out _); have y1 : u.cell? ⟨g, q * 3 + 1, none⟩ = some (.int .i64 x.d) := (bl_cell hu _ _ hgl).trans (CX.out 1 _ rfl); have e1 : u.frozen? ⟨g, q * 3 + 1, none⟩ = false := (bl_froz hu _ _ hgl).trans (FZ.out _); have y2 : u.cell? ⟨g, q * 3 + 2, none⟩ = some (.bool x.bad) := (bl_cell hu _ _ hgl).trans (CX.out 2 _ rfl); have e2 : u.frozen? ⟨g, q * 3 + 2, none⟩ = false := (bl_froz hu _ _ hgl).trans (FZ.out _)
        rw [k25] at i25
        rw [k26] at i26
        exact skip_wp (by intro c h; cases h) (fun _ _ => trivial) (by simp only [execOp, i25, i26]; simp [go_sem, y0, e0, y1, e1, y2, e2]; rfl) ⟨rfl, rfl⟩
      case fin =>
        intro vs vb u0 u hu hin hps
        have a0 := hin 0 12 rfl
        have a1 := hin 1 13 rfl
        have a2 := hin 2 14 rfl
        have a3 := hin 3 15 rfl
        have a4 := hin 4 16 rfl
        have a5 := hin 5 17 rfl
        have a6 := hin 6 18 rfl
        have a7 := hin 7 19 rfl
        have a8 := hin 8 20 rfl
        have a9 := hin 9 21 rfl
        have a10 := hin 10 22 rfl
        have a11 := hin 11 23 rfl
        have a12 := hin 12 24 rfl
        have a13 := hin 13 25 rfl
        have a14 := hin 14 26 rfl
        simp only [putL, Act.put, List.setIfInBounds_toArray, List.set_cons_zero, List.set_cons_succ, Nat.zero_add, Nat.reduceAdd, Nat.reduceBEq, Bool.or_false, Bool.or_true, Bool.false_or, Bool.true_or, Bool.false_eq_true, if_false, if_true, reduceIte, Nat.reduceEqDiff, beq_self_eq_true, Bool.or_self] at a0 a1 a2 a3 a4 a5 a6 a7 a8 a9 a10 a11 a12 a13 a14 ⊢
        rw [if_pos (by decide)] at hps
        simp only [a0, a1, a2, a3, a4, a5, a6, a7, a8, a9, a10, a11, a12, a13, a14]
        have hq' : q < (mk n n (negTo negR k i f)).length := by rw [mk_len, ← HN.out]; exact hq5
        have PUT := hideP ((HR.out.later hu).putAt cellsF_len hq' y)
        rw [HP.out, mk_put hlt hkn, ← HP.out, ← hps] at PUT
        have bt' : But (fun b => b = g) W u := by rw [hps]; exact but_setCells (S := fun b => b = g) (b := g) rfl _ _ _ _ (bt.trans (But.of_bl hu))
        clear hps hu
        go_wp2
        go_roundw
        case rel => exact ⟨i + 1, by simp, by omega, by omega, by rw [HS.out]; exact PUT.out, bt'⟩
        case measure => simp [intOf]; omega
    · obtain rfl : i = n := by omega
      obtain ⟨c0, c1, c2, f0, f1, f2, lt⟩ := id mb
      go_wp2
      go_end0
      exact ⟨⟨_, rfl⟩, HR.out, (But.of_bl b0).trans bt⟩
end Go.Proofs.YtlbmkjicbkfmjaaGreat

/- Contract of tri's Diagonal, of fractions (layer 7). Written by genTr.py. -/
namespace Go.Proofs.YtlbmkjicbkfmjaaGreat
open Go.RowKit Go.Shelf
set_option linter.unusedSimpArgs false
set_option linter.unusedVariables false
attribute [local go_sem] Oper.semAt_some

set_option maxRecDepth 100000 in
set_option maxHeartbeats 4000000 in
theorem tDiagF (n : Nat) (p : Option Addr) (N cap : Nat) (f : Nat → Nat → Fr) (w : World) (h : Mx 3 cellsF w n n p N cap f) :
    Calls Tryz.prog 163 #[mV n n p N cap] w fun e w' => ∃ p' cap', e = .returned (.slice p' n cap') ∧ Rw 3 cellsF w' (.slice p' n cap') ((List.range n).map fun i => f i i) ∧ Bl w w' := by
  obtain ⟨i0, hi, hz0, hz1, hz2⟩ := info_parts Tryz.info_F
  have fm : Tryz.prog.follows .mixedOrders = true := by kernel_rfl
  refine (callsIn_wide (n := 8)).1 ?_
  have hsq : sqB n n N = true := by unfold sqB; rw [h.fit]; simp
  have hd := h.1
  have hn16 := hd.r2
  have HXm := hideP h
  clear h
  obtain ⟨W, hW⟩ : ∃ W, W = w.alloc (.cells #[.int .i64 n, .int .i64 n, .slice p N cap] 62) := ⟨_, rfl⟩
  have b0 : Bl w W := by rw [hW]; exact (Bl.refl _).alloc _
  have mx0 : MBox W w.heap.size n n p N cap := by rw [hW]; exact MBox.new w _ _ _ _ _ _
  have HW := hideP hW
  clear hW
  refine callsIn_of_wp_marks Tryz.func163 rfl trivial ?_ rfl
  simp only [Tryz.ntmps163, List.size_toArray, List.length_cons, List.length_nil, Nat.reduceAdd, Nat.reduceSub, Array.replicate_succ, Array.replicate_zero, List.push_toArray, List.append_toArray, List.nil_append, List.cons_append]
  gi_wp2_with fail
  rw [← HW.out]
  refine ⟨trivial, ?_⟩
  refine (callsIn_wide.2 (tSquareF _ _ _ _ _ _)).mono ?_
  rintro e w5 ⟨rfl, h5⟩
  rw [hsq]
  have mx5 := mx0.later h5
  have bw5 : Bl w w5 := b0.trans h5
  obtain ⟨c0, c1, c2, f0, f1, f2, lt⟩ := id mx5
  gi_wp2_with (gi_at_make; refine wpListIn_make_own _ rfl _ _ 60 rfl w5.heap.size 66 i0 (.agg #[.int .i64 0, .int .i64 0, .bool false]) 3 Tryz.underlying60 hi hz0 hz1 .i64 .i64 _ n rfl rfl (by simp) (by rw [hz2]; omega) (by unfold maxLen; omega) (by simp) ?_; intro w6 hown0 hgrow0; have mx6 := mbox_block mx5 (hgrow0.block _ mx5.lt nofun) hgrow0.size; clear c0 c1 c2 f0 f1 f2 lt; obtain ⟨c0, c1, c2, f0, f1, f2, lt⟩ := mx6)
  have h56 : Bl w5 w6 := ⟨hgrow0.os, hgrow0.tape, hgrow0.output, hgrow0.size, fun k hk => hgrow0.block k hk nofun⟩
  have hs6 : w5.heap.size ≤ w6.heap.size := hgrow0.size
  obtain ⟨w6b, hw6b⟩ : ∃ w6b, w6b = w6.alloc (.cells #[.slice (some ⟨w5.heap.size, 0, none⟩) 0 n] 60) := ⟨_, rfl⟩
  have h6b : Bl w6 w6b := by rw [hw6b]; exact (Bl.refl _).alloc _
  have hs6b : w6b.heap.size = w6.heap.size + 1 := by rw [hw6b]; simp
  have bl6 : Boxed w6b w6.heap.size 60 (.slice (some ⟨w5.heap.size, 0, none⟩) 0 n) := by rw [hw6b]; exact Boxed.new w6 _ _
  have hown6 : w6b.ownsRow w5.heap.size 66 3 (.slice (some ⟨w5.heap.size, 0, none⟩) 0 n) 0 [] := own_blF hown0 h6b
  have hlt5 : w5.heap.size < w6b.heap.size := by have := (hown6.lt w5.heap.size rfl).2; exact this
  have HW6 := hideP hw6b
  clear hw6b hown0 hgrow0 c0 c1 c2 f0 f1 f2 lt
  rw [← HW6.out]
  refine ⟨trivial, ?_⟩
  refine (callsIn_wide.2 (mAllF _ _ _ _ _ f _ (HXm.out.later ((bw5.trans h56).trans h6b)))).mono ?_
  rintro e w7 ⟨B2, p2, cap5, rfl, hK7, h7⟩
  have HK7 := hideP hK7
  clear hK7
  have hs7 : w6.heap.size + 1 ≤ w7.heap.size := by have := h7.size; omega
  have b57 : Below w5.heap.size w5 w7 := (h56.trans h6b).trans h7
  have bl7 := boxed_bl bl6 h7
  have own7 := own_blF hown6 h7
  clear bl6 hown6
  gi_wp2_with fail
  refine rangeV rfl (by omega) (gf := 153) (lb := #[.pointer (some ⟨B2, 0, none⟩)]) rfl trivial (enters_of Tryz.func153 (by kernel_rfl) rfl)
    (seqMF 7 B2 _ w7.heap.size n n p2 N cap5 f w7 (Nat.le_refl _) HK7.out) (fun x A B h => h.1) (fun h k => h.trans k) (span_b (Nat.le_refl _)) (fun _ => rfl)
    (fun (pre : List RowX) U => (∃ v, Boxed U w6.heap.size 60 v ∧ U.ownsRow w5.heap.size 66 3 v (pre.map fun x : RowX => f x.1 x.1).length ((pre.map fun x : RowX => f x.1 x.1).flatMap cellsF) ∧ (∀ b, v.ownBlock = some b → b < w6b.heap.size ∨ w7.heap.size ≤ b)) ∧ (Below w5.heap.size w5 U ∧ w7.heap.size ≤ U.heap.size))
    (fun _ _ _ => False)
    (OwnFrom.and (Own.from (holdsRow_own w5.heap.size w6.heap.size 60 66 3 (fun pre : List RowX => (pre.map fun x : RowX => f x.1 x.1).length) (fun pre : List RowX => (pre.map fun x : RowX => f x.1 x.1).flatMap cellsF) (fun _ v => ∀ b, v.ownBlock = some b → b < w6b.heap.size ∨ w7.heap.size ≤ b)) _) (OwnFrom.and (ownFrom_below (Nat.le_refl _) b57.size) (own_size _ _)))
    (fun _ _ _ _ _ hs _ _ => hs)
    ⟨⟨_, bl7, own7, fun b hb => by cases hb; exact .inl hlt5⟩, b57, Nat.le_refl _⟩
    (fun a x a' U => Rw 3 cellsF U (rowV n x) (rowM n f x.1) ∧ (x.1 < n ∧ a' = { tmps := ((((a.tmps.setIfInBounds 14 (.int .i64 x.1)).setIfInBounds 15 (rowV n x)).setIfInBounds 4 (.int .i64 x.1)).setIfInBounds 5 (rowV n x)), defers := [] }))
    (fun x a' _ X Y row hs hg hr => ⟨rw_own hs.1 hg (fun r e => (hr r e).2), hs.2⟩)
    ?assign ?body ?done ?stop
  case assign =>
    rintro l pre x W0 U K' _ ⟨hbU, hxR, hrow, hfr, hcc⟩ hI hK'
    have HK2 := hideP hK'
    have HI := hideP hI
    clear hK' hI
    gi_wp2
    exact HK2.out _ _ (KeepsFrom.refl _ _) (Span.refl _ _ _) HI.out ⟨hrow, hxR, rfl⟩
  case body =>
    rintro l pre x a' U hl' ⟨r, hr'⟩ ⟨⟨v0, hv0, hrow, hgv⟩, hbU, hsU⟩ ⟨hrx, hxn, rfl⟩ hlt
    simp only [List.setIfInBounds_toArray, List.set_cons_zero, List.set_cons_succ]
    gi_wp2_with fail
    have hlen2 : (pre.map fun x : RowX => f x.1 x.1).length ≤ 100000 := by rw [List.length_map]; omega
    have hne0 : some w6.heap.size ≠ v0.ownBlock := hv0.not_row (by decide) hrow
    obtain ⟨rb, ro, hp1, hrl, hrc⟩ := rw_cells7 hrx (show 0 < n by omega)
    have hb5 := b57.size
    have y0 : ∀ u, Bl U u → u.cell? ⟨rb, ro + x.1 * 3, none⟩ = some (.int .i64 (f x.1 x.1).n) := fun u hu => (bl_cell hu _ _ hrl).trans (hrc x.1 _ (rowM_get f x.1 hxn) 0 _ rfl)
    have y1 : ∀ u, Bl U u → u.cell? ⟨rb, ro + x.1 * 3 + 1, none⟩ = some (.int .i64 (f x.1 x.1).d) := fun u hu => (bl_cell hu _ _ hrl).trans (hrc x.1 _ (rowM_get f x.1 hxn) 1 _ rfl)
    have y2 : ∀ u, Bl U u → u.cell? ⟨rb, ro + x.1 * 3 + 2, none⟩ = some (.bool (f x.1 x.1).bad) := fun u hu => (bl_cell hu _ _ hrl).trans (hrc x.1 _ (rowM_get f x.1 hxn) 2 _ rfl)
    refine (region_qa fm [some 16, some 17, some 18, some 19, some 20, some 21, some 22, none] 6 (by kernel_rfl) (by rfl)
      (fun j v u => match j with | 0 => v = v0 | 1 => v = rowV n x | 2 => v = .int .i64 x.1 | 3 => v = .pointer (some ⟨rb, ro + x.1 * 3, none⟩) | 4 => v = frV (f x.1 x.1) | 5 => ∃ gz, v = .slice (some ⟨gz, 0, none⟩) 1 1 ∧ FBox u gz (f x.1 x.1) | _ => False)
      (by
        intro j v u u' hb h
        split at h <;> first | exact h | (obtain ⟨b, e, h1⟩ := h; exact ⟨b, e, h1.later hb⟩)) (fun vs v u0 u => ∃ g' cap', v = .slice (some ⟨g', 0, none⟩) ((pre.map fun x : RowX => f x.1 x.1).length + 1) cap' ∧ u0.grownBy u v0.ownBlock ∧ u.ownsRow w5.heap.size 66 3 (.slice (some ⟨g', 0, none⟩) ((pre.map fun x : RowX => f x.1 x.1).length + 1) cap') ((pre.map fun x : RowX => f x.1 x.1).length + 1) ((pre.map fun x : RowX => f x.1 x.1).flatMap cellsF ++ cellsF (f x.1 x.1)) ∧ (some g' = v0.ownBlock ∨ g' = u0.heap.size)) (fun vs v u0 u => ∃ wz g' cap', u = wz.setCell ⟨w6.heap.size, 0, none⟩ (.slice (some ⟨g', 0, none⟩) ((pre.map fun x : RowX => f x.1 x.1).length + 1) cap') ∧ u0.grownBy wz v0.ownBlock ∧ wz.ownsRow w5.heap.size 66 3 (.slice (some ⟨g', 0, none⟩) ((pre.map fun x : RowX => f x.1 x.1).length + 1) cap') ((pre.map fun x : RowX => f x.1 x.1).length + 1) ((pre.map fun x : RowX => f x.1 x.1).flatMap cellsF ++ cellsF (f x.1 x.1)) ∧ (some g' = v0.ownBlock ∨ g' = u0.heap.size)) ?step ?app ?store ?fin)
    case step =>
      intro j o t act u ho hdt hjs hsz hu hfr hin
      have e0 := y0 u hu; have e1 := y1 u hu; have e2 := y2 u hu
      rcases (by omega : j = 0 ∨ j = 1 ∨ j = 2 ∨ j = 3 ∨ j = 4 ∨ j = 5) with rfl | rfl | rfl | rfl | rfl | rfl
      · simp only [List.getElem?_toArray, List.getElem?_cons_zero, List.getElem?_cons_succ, Option.some.injEq] at ho
        subst ho
        obtain rfl := Option.some.inj hdt
        have i3 : act.eval (.tmp (3 : Nat)) = .pointer (some ⟨w6.heap.size, 0, none⟩) := hfr 3 (by decide)
        exact load_wp _ _ rfl (by rw [i3]; exact Tryz.load1F w6.heap.size _ u (boxed_bl hv0 hu).cell) ⟨_, rfl, rfl, Bl.refl _⟩
      · simp only [List.getElem?_toArray, List.getElem?_cons_zero, List.getElem?_cons_succ, Option.some.injEq] at ho
        subst ho
        obtain rfl := Option.some.inj hdt
        have i5 : act.eval (.tmp (5 : Nat)) = rowV n x := hfr 5 (by decide)
        exact plain_wp (by intro c h; cases h) (fun _ _ => trivial) (by simp only [execOp, i5, evalC, evalF, evalG]; simp [go_sem]) ⟨_, rfl, rfl, Bl.refl _⟩
      · simp only [List.getElem?_toArray, List.getElem?_cons_zero, List.getElem?_cons_succ, Option.some.injEq] at ho
        subst ho
        obtain rfl := Option.some.inj hdt
        have i4 : act.eval (.tmp (4 : Nat)) = .int .i64 x.1 := hfr 4 (by decide)
        exact plain_wp (by intro c h; cases h) (fun _ _ => trivial) (by simp only [execOp, i4, evalC, evalF, evalG]; simp [go_sem]) ⟨_, rfl, rfl, Bl.refl _⟩
      · simp only [List.getElem?_toArray, List.getElem?_cons_zero, List.getElem?_cons_succ, Option.some.injEq] at ho
        subst ho
        obtain rfl := Option.some.inj hdt
        have i17 : (act.eval (.tmp (17 : Nat))) = rowV n x := hin ⟨1, .data⟩ (by simp) rfl 17 rfl
        have i18 : (act.eval (.tmp (18 : Nat))) = .int .i64 x.1 := hin ⟨2, .data⟩ (by simp) rfl 18 rfl
        exact plain_wp (by intro c h; cases h) (fun _ _ => trivial) (by simp only [execOp, i17, i18, rowV, hp1]; simp [go_sem, hxn]) ⟨_, rfl, rfl, Bl.refl _⟩
      · simp only [List.getElem?_toArray, List.getElem?_cons_zero, List.getElem?_cons_succ, Option.some.injEq] at ho
        subst ho
        obtain rfl := Option.some.inj hdt
        have i19 : (act.eval (.tmp (19 : Nat))) = .pointer (some ⟨rb, ro + x.1 * 3, none⟩) := hin ⟨3, .data⟩ (by simp) rfl 19 rfl
        exact plain_wp (by intro c h; cases h) (fun _ _ => trivial) (by simp only [execOp, i19]; simp [go_sem, e0, e1, e2]) ⟨_, rfl, rfl, Bl.refl _⟩
      · simp only [List.getElem?_toArray, List.getElem?_cons_zero, List.getElem?_cons_succ, Option.some.injEq] at ho
        subst ho
        obtain rfl := Option.some.inj hdt
        have i20 : (act.eval (.tmp (20 : Nat))) = frV (f x.1 x.1) := hin ⟨4, .data⟩ (by simp) rfl 20 rfl
        refine build_wp _ _ rfl (by rw [i20]; exact Tryz.build1F _ u) ?_
        exact ⟨_, rfl, ⟨u.heap.size, rfl, FBox.new u _ _⟩, (Bl.refl _).alloc _⟩
    case app =>
      intro o t act u vs ho hdt hsz hu hfr hin
      simp only [List.getElem?_toArray, List.getElem?_cons_zero, List.getElem?_cons_succ, Option.some.injEq] at ho
      subst ho
      obtain rfl := Option.some.inj hdt
      obtain ⟨i16, k16⟩ : act.eval (.tmp (16 : Nat)) = vs 0 ∧ ((vs 0) = v0) := hin 0 16 (by omega) rfl
      obtain ⟨i21, k21⟩ : act.eval (.tmp (21 : Nat)) = vs 5 ∧ (∃ gz, (vs 5) = .slice (some ⟨gz, 0, none⟩) 1 1 ∧ FBox u gz (f x.1 x.1)) := hin 5 21 (by omega) rfl
      obtain ⟨gz, eg, bz⟩ := k21
      rw [eg] at i21
      rw [k16] at i16
      refine stepIn_append (.tmp (16 : Nat)) (.tmp (21 : Nat)) 60 rfl w5.heap.size 66 i0 (.agg #[.int .i64 0, .int .i64 0, .bool false]) 3 24 Tryz.underlying60 hi hz0 hz1 hz2 rfl (by decide) v0 (pre.map fun x : RowX => f x.1 x.1).length ((pre.map fun x : RowX => f x.1 x.1).flatMap cellsF) i16 (own_blF hrow hu) ⟨gz, 0, none⟩ 1 1 (cellsF (f x.1 x.1)) i21 rfl bz.cells (oneF_cells _) (by unfold maxLen; omega) (by omega) (by have := hu.size; omega) ?_
      intro v' w5 hown' hgrow hat
      obtain ⟨g', cap', rfl⟩ := ownsRow_succ hown'
      refine ⟨_, rfl, g', cap', rfl, hgrow, hown', ?_⟩
      rcases hat with h | h
      · exact .inl h
      · exact .inr (by simpa [Value.ownBlock] using h)
    case store =>
      intro o act u0 u vs v ho hsz hu hfr hin hv hpa
      simp only [List.getElem?_toArray, List.getElem?_cons_zero, List.getElem?_cons_succ, Option.some.injEq] at ho
      subst ho
      have i3 : act.eval (.tmp (3 : Nat)) = .pointer (some ⟨w6.heap.size, 0, none⟩) := hfr 3 (by decide)
      have i22 : act.eval (.tmp (22 : Nat)) = v := hv 22 rfl
      obtain ⟨g', cap', rfl, hgrow, hown', hat⟩ := hpa
      have hbu := (boxed_bl hv0 hu).kept hgrow hne0
      exact skip_wp (by intro c h; cases h) (fun _ _ => trivial) (by simp only [execOp, i3, i22]; simp [go_sem, hbu.cell, hbu.frozen]) ⟨rfl, u, g', cap', rfl, hgrow, hown', hat⟩
    case fin =>
      intro vs v u0 u hu hin hpb
      obtain ⟨w8, g', cap', rfl, k2, k3, k4⟩ := hpb
      have k1 := hu
      clear hin
      have hvu := boxed_bl hv0 k1
      have hru := own_blF hrow k1
      have hsu := k1.size
      have hu5 : w5.heap.size ≤ u0.heap.size := by omega
      obtain ⟨hv5, hv6, hr6, hk6, hb6⟩ := boxed_appended hvu (by decide) hru hu5 (by omega) k3 k2
      have hg8 := k2.size
      refine ⟨(k1.keeps _).trans (hk6.from _), span_appended k1 (by omega) hgv k2 (by omega), ⟨_, hv6, ?_, ?_⟩, ?_, ?_⟩
      · rw [List.map_append]
        simpa [List.flatMap_append] using hr6
      · intro b hb
        have hb' : g' = b := by cases hb; rfl
        subst hb'
        rcases k4 with h | h
        · exact hgv _ h.symm
        · exact .inr (by omega)
      · exact hbU.trans ((k1.mono (by omega)).trans hb6)
      · simp; omega
  case done =>
    rintro Dm zs U hD hS ⟨⟨v, hv, hrow, _⟩, hb5, hs7'⟩ hKD
    have e : (zs.map fun x : RowX => f x.1 x.1) = (List.range n).map fun i => f i i := by rw [← hS, List.map_map]; rfl
    rw [e] at hrow
    have RW := Rw.of_own cellsF_len (ownsRow_putObj hrow (.deferred none) hKD rfl)
    obtain ⟨p', cap', hv', _, _⟩ := RW.cut
    rw [List.length_map, List.length_range] at hv'
    subst hv'
    have hcl := hv.cell
    have hbw : Bl w U := bw5.trans hb5
    have HRW := hideP RW
    have HKD := hideP hKD
    clear hrow RW hKD hv
    gi_wp2
    refine ⟨by simp, .inl ⟨_, _, rfl, run_takeDeferred HKD.out, ?_⟩⟩
    exact ⟨_, results_tmp rfl _ _ _, p', cap', rfl, HRW.out, Below.trans hbw (belowK_b (w := w) (Nat.le_refl _) U Dm _ _ (by have := bw5.size; have := b57.size; omega) HKD.out rfl rfl)⟩
  case stop =>
    rintro D' c pre U _ _ h _
    exact h.elim
theorem tDiagF_no (r c : Int) (p : Option Addr) (n cap : Nat) (w : World) (hsq : sqB r c n = false) :
    Calls Tryz.prog 163 #[mV r c p n cap] w fun e w' => e = .returned (.slice none 0 0) ∧ Bl w w' := by
  obtain ⟨W, hW⟩ : ∃ W, W = w.alloc (.cells #[.int .i64 r, .int .i64 c, .slice p n cap] 62) := ⟨_, rfl⟩
  have b0 : Bl w W := by rw [hW]; exact (Bl.refl _).alloc _
  have HW := hideP hW
  clear hW
  go_enter Tryz.func163, Tryz.ntmps163
  go_wp2_with fail
  rw [← HW.out]
  refine (tSquareF _ _ _ _ _ _).mono ?_
  rintro e w1 ⟨rfl, h1⟩
  rw [hsq]
  go_wp2
  go_ret
  exact ⟨rfl, b0.trans h1⟩
end Go.Proofs.YtlbmkjicbkfmjaaGreat

/- Contract of house's Signs, of fractions (layer 8). Written by genHu.py. -/
namespace Go.Proofs.YtlbmkjicbkfmjaaGreat
open Go.RowKit Go.Shelf
set_option linter.unusedSimpArgs false
set_option linter.unusedVariables false
attribute [local go_sem] Oper.semAt_some

set_option maxRecDepth 100000 in
set_option maxHeartbeats 4000000 in
theorem hSignsF (n : Nat) (p : Option Addr) (N cap : Nat) (f : Nat → Nat → Fr) (w : World) (h : Mx 3 cellsF w n n p N cap f) :
    Calls Tryz.prog 127 #[mV n n p N cap] w fun e w' => ∃ p' cap', e = .returned (.tuple #[mV n n p' N cap', .bool true]) ∧ (Mx 3 cellsF w' n n p' N cap' (signsH kdF (fun j => lowFr (f j j)) f) ∧ Fresh w.heap.size (.slice p' N cap')) ∧ Bl w w' := by
  have fm : Tryz.prog.follows .mixedOrders = true := by kernel_rfl
  have ms := Tryz.hSignF
  have hd := h.1
  have hn16 := hd.r2
  have hn1 := hd.r1
  have HN := hideP h.2.1
  have HD := hideP hd
  have hfit := h.fit
  obtain ⟨W, hW⟩ : ∃ W, W = (w.alloc (.cells #[.int .i64 n, .int .i64 n, .slice p N cap] 62)).alloc (.cells #[.int .i64 0, .int .i64 0, .slice none 0 0] 62) := ⟨_, rfl⟩
  have b0 : Bl w W := by rw [hW]; exact ((Bl.refl _).alloc _).alloc _
  have m0 : MBox W w.heap.size n n p N cap := by rw [hW]; exact (MBox.new w _ _ _ _ _ _).later ((Bl.refl _).alloc _)
  have x0 : MBox W (w.heap.size + 1) 0 0 none 0 0 := by rw [hW]; have := MBox.new (w.alloc (.cells #[.int .i64 n, .int .i64 n, .slice p N cap] 62)) 0 0 none 0 0 62; rw [World.size_alloc] at this; exact this
  have hs0 : W.heap.size = w.heap.size + 1 + 1 := by rw [hW]; simp
  have DG := hideP (tDiagF n p N cap f W (h.later b0))
  have NW := hideP (fun u (hu : Bl w u) => mNewZF n n p N cap (mk n n f) u (h.2.2.later hu) hfit (by rw [mk_len, HN.out]))
  have HW := hideP hW
  clear hW h hd
  go_enter Tryz.func127, Tryz.ntmps127
  go_wp2_with fail
  rw [← HW.out]
  refine DG.out.mono ?_
  rintro e w1 ⟨p1, c1, rfl, hr1, h1⟩
  obtain ⟨b1, o1, rfl, hb1, DC⟩ : ∃ b1 o1, p1 = some ⟨b1, o1, none⟩ ∧ b1 < w1.heap.size ∧ ∀ j, j < n → ∀ k u, (cellsF (f j j))[k]? = some u → w1.cell? ⟨b1, o1 + j * 3 + k, none⟩ = some u := by
    rcases hr1 with ⟨_, e0⟩ | ⟨b1, o1, c, e, _, hb, hx⟩
    · have := congrArg List.length e0; simp at this; omega
    · simp only [Value.slice.injEq] at e
      obtain ⟨rfl, _, _⟩ := e
      exact ⟨b1, o1, rfl, hb, fun j hj k u hu => hx j (f j j) (by simp [hj]) k u hu⟩
  have HDC := hideP DC
  have en : ((n : Int) == 0) = false := by simp; omega
  have bw1 : Bl w w1 := b0.trans h1
  have x1 := x0.later h1
  obtain ⟨c0, c1', c2, f0, f1, f2, lt⟩ := m0.later h1
  clear hr1 DC DG
  go_wp2_with fail
  refine (NW.out _ bw1).mono ?_
  rintro e w2 ⟨p2, c2', rfl, hz2, h2⟩
  obtain ⟨g, hp2, hg1, hg2⟩ : ∃ g, p2 = some ⟨g, 0, none⟩ ∧ w1.heap.size ≤ g ∧ g < w2.heap.size := by
    obtain ⟨g, c, e, _, h1, h2, _⟩ := hz2
    simp only [Value.slice.injEq] at e
    exact ⟨g, e.1, h1, h2⟩
  subst hp2
  have HZ := hideP hz2
  obtain ⟨W2, hW2⟩ : ∃ W2, W2 = w2.alloc (.cells #[.int .i64 n, .int .i64 n, .slice (some ⟨g, 0, none⟩) N c2'] 62) := ⟨_, rfl⟩
  have b2 : Bl w2 W2 := by rw [hW2]; exact (Bl.refl _).alloc _
  have k2 : MBox W2 w2.heap.size n n (some ⟨g, 0, none⟩) N c2' := by rw [hW2]; exact MBox.new w2 _ _ _ _ _ _
  have h12 : Bl w1 W2 := h2.trans b2
  have x2 := x1.later h12
  have hs1 := bw1.size
  have hs1' := h1.size
  have hs2 := h2.size
  have HGW := hideP (show w.heap.size + 2 ≤ g by omega)
  have HW2 := hideP hW2
  clear hW2 hz2 NW c0 c1' c2 f0 f1 f2 lt
  go_wp2_with fail
  rw [← HW2.out]
  go_loopw [27] (fun v wr => ∃ j : Nat, v = .int .i64 j ∧ j ≤ n ∧ RwZ 3 cellsF wr w1.heap.size (.slice (some ⟨g, 0, none⟩) N c2') (mk n n (sgTo negR lowFr j f)) ∧ But (fun b => b = g) W2 wr) (fun v _ => n - (intOf v).toNat)
  case atStart => exact ⟨0, rfl, Nat.zero_le _, by rw [mk_congr (fun i j _ _ => show sgTo negR lowFr 0 f i j = f i j from if_neg (by omega))]; exact HZ.out.later b2, But.refl _ _⟩
  case round =>
    obtain ⟨j, rfl, hj, hr, bt⟩ := hrel
    have HR := hideP hr
    clear hr
    have kb := mbox_block k2 (bt.block _ k2.lt (by show ¬ w2.heap.size = g; omega)) bt.size
    by_cases hlt : j < n
    · obtain ⟨x, hx⟩ : ∃ x, x = f j j := ⟨_, rfl⟩
      have DX := hideP (show ∀ k u, (cellsF x)[k]? = some u → wr.cell? ⟨b1, o1 + j * 3 + k, none⟩ = some u from fun k u hu => ((bt.cell b1 _ (Nat.lt_of_lt_of_le hb1 h12.size) (by show ¬ b1 = g; omega)).trans (bl_cell h12 _ _ hb1)).trans (HDC.out j hlt k u (by rw [← hx]; exact hu)))
      have x0 : wr.cell? ⟨b1, o1 + j * 3, none⟩ = some (.int .i64 x.n) := DX.out 0 _ rfl
      have x1 : wr.cell? ⟨b1, o1 + j * 3 + 1, none⟩ = some (.int .i64 x.d) := DX.out 1 _ rfl
      have x2 : wr.cell? ⟨b1, o1 + j * 3 + 2, none⟩ = some (.bool x.bad) := DX.out 2 _ rfl
      have hb1r : b1 < wr.heap.size := Nat.lt_of_lt_of_le (Nat.lt_of_lt_of_le hb1 h12.size) bt.size
      have HX := hideP hx
      have SG := hideP (show lowFr x = decide (signR x < 0) from rfl)
      have SGC := hideP (fun u => rsign_any x u)
      obtain ⟨lo, hlo⟩ : ∃ lo, lo = lowFr x := ⟨_, rfl⟩
      rw [← hlo] at SG
      have HLO := hideP hlo
      clear hx hlo
      generalize signR x = sg at *
      obtain ⟨W3, hW3⟩ : ∃ W3, W3 = wr.alloc (.cells #[.int .i64 x.n, .int .i64 x.d, .bool x.bad] 66) := ⟨_, rfl⟩
      have b3 : Bl wr W3 := by rw [hW3]; exact (Bl.refl _).alloc _
      have HW3 := hideP hW3
      clear hW3
      go_wp2_with fail
      rw [← HW3.out]
      refine (SGC.out _).mono ?_
      rintro e w3 ⟨rfl, h3⟩
      have h3' : Bl wr w3 := b3.trans h3
      have bt3 : But (fun b => b = g) W2 w3 := bt.trans (But.of_bl h3')
      clear x0 x1 x2
      by_cases hs : sg < 0
      · have hlo : lo = true := by rw [SG.out]; exact decide_eq_true hs
        obtain ⟨c0, c1', c2, f0, f1, f2, lt⟩ := kb.later h3'
        have NG := hideP (hNegateF n g N c2' (sgTo negR lowFr j f) w3 w1.heap.size HD.out HN.out (HR.out.later h3') j hlt)
        rw [mk_congr (fun i c hi hc => show negTo negR j n (sgTo negR lowFr j f) i c = sgTo negR lowFr (j + 1) f i c from sgTo_yes negR lowFr (by rw [← HX.out, ← HLO.out]; exact hlo) hi)] at NG
        go_wp2_with fail
        refine NG.out.mono ?_
        rintro e w4 ⟨⟨v4, rfl⟩, hz4, bt4⟩
        have HZ4 := hideP hz4
        have bt4' : But (fun b => b = g) W2 w4 := bt3.trans bt4
        clear hz4 NG c0 c1' c2 f0 f1 f2 lt
        go_wp2
        go_roundw
        case rel => exact ⟨j + 1, by simp, hlt, HZ4.out, bt4'⟩
        case measure => simp [intOf]; omega
      · have hlo : lo = false := by rw [SG.out]; exact decide_eq_false hs
        have HZ3 := hideP (HR.out.later h3')
        rw [mk_congr (fun i c hi hc => show sgTo negR lowFr j f i c = sgTo negR lowFr (j + 1) f i c from (sgTo_no negR lowFr (by rw [← HX.out, ← HLO.out]; exact hlo)).symm)] at HZ3
        go_wp2
        go_roundw
        case rel => exact ⟨j + 1, by simp, hlt, HZ3.out, bt3⟩
        case measure => simp [intOf]; omega
    · obtain rfl : j = n := by omega
      obtain ⟨d0, d1, d2, g0, g1, g2, lt'⟩ := kb
      obtain ⟨c0, c1', c2, f0, f1, f2, lt⟩ := mbox_block x2 (bt.block _ x2.lt (by show ¬ w.heap.size + 1 = g; omega)) bt.size
      have RES := hideP (show Mx 3 cellsF wr j j (some ⟨g, 0, none⟩) N c2' (signsH kdF (fun i => lowFr (f i i)) f) from ⟨HD.out, HN.out, by
        rw [mk_congr (fun i c hi hc => show signsH kdF (fun i => lowFr (f i i)) f i c = sgTo negR lowFr j f i c from (sgTo_all negR lowFr hc).symm)]
        exact HR.out.rw.q⟩)
      have BR : Bl w wr := bt.bl (bw1.trans h12) (fun i e => by show w.heap.size ≤ i; have : i = g := e; omega)
      clear HR
      go_wp2
      simp [bodyPost, results, Tryz.results127, go_sem, c0, c1', c2]
      exact ⟨_, _, ⟨rfl, rfl⟩, ⟨mx_ne7 RES.out (fun b hb => by have e : g = b := Option.some.inj hb; have := HGW.out; omega) _ _ _, fun b hb => by have e : g = b := Option.some.inj hb; have := HGW.out; omega⟩, Bl.put3 BR (Nat.le_succ _) _ _ _⟩
end Go.Proofs.YtlbmkjicbkfmjaaGreat

/- Contract of house's Fold, of fractions (layer 8). Written by genHu.py. -/
namespace Go.Proofs.YtlbmkjicbkfmjaaGreat
open Go.RowKit Go.Shelf
set_option linter.unusedSimpArgs false
set_option linter.unusedVariables false
attribute [local go_sem] Oper.semAt_some

/-- What a fold of a matrix is. -/
def foldF (R C : Nat) (f : Nat → Nat → Fr) : Nat → Nat → Fr := signsH kdF (fun j => lowFr (foldL kdF lowFr C f R j j)) (foldL kdF lowFr C f R)
/-- The first numbers of a row, as the program takes them. -/
theorem Tryz.frontF (b n cap hi : Nat) (w : World) (h1 : hi ≤ cap) (h2 : 0 < cap) : (Instr.sliceAt 60 (.slice (some ⟨b, 0, none⟩) n cap) none (some (.int .i64 hi)) none).run Tryz.prog w = .ok (.slice (some ⟨b, 0, none⟩) hi cap) w := by
  have hu : Tryz.prog.underlying 60 = some (.slice (Tryz.prog.elem 60)) := by kernel_rfl
  obtain ⟨i0, hi0, hz0, hz1, hz2⟩ := info_parts Tryz.info_F
  have he : Tryz.prog.elem 60 = 66 := by kernel_rfl
  rw [run_sliceAt_slice (h := hu), run_slice_h (ht := hu) (h0 := by omega) (h2 := by omega), he]
  have hcm : ¬ cap = 0 := by omega
  simp [sizeOf, typeInfo, hi0, sliced, Result.andThen, hz1, hcm, Addr.add]
theorem hFoldAllF_no (r c : Int) (p : Option Addr) (N cap : Nat) (w : World) (h : fitB r c N = false ∨ r > c) :
    Calls Tryz.prog 86 #[mV r c p N cap] w fun e w' => e = .returned (.tuple #[mV 0 0 none 0 0, .bool false]) ∧ Bl w w' := by
  obtain ⟨W, hW⟩ : ∃ W, W = (w.alloc (.cells #[.int .i64 r, .int .i64 c, .slice p N cap] 62)).alloc (.cells #[.int .i64 0, .int .i64 0, .slice none 0 0] 62) := ⟨_, rfl⟩
  have b0 : Bl w W := by rw [hW]; exact ((Bl.refl _).alloc _).alloc _
  have m0 : MBox W w.heap.size r c p N cap := by rw [hW]; exact (MBox.new w _ _ _ _ _ _).later ((Bl.refl _).alloc _)
  have x0 : MBox W (w.heap.size + 1) 0 0 none 0 0 := by rw [hW]; have := MBox.new (w.alloc (.cells #[.int .i64 r, .int .i64 c, .slice p N cap] 62)) 0 0 none 0 0 62; rw [World.size_alloc] at this; exact this
  have HW := hideP hW
  clear hW
  go_enter Tryz.func86, Tryz.ntmps86
  go_wp2_with fail
  rw [← HW.out]
  refine (mRightF _ _ _ _ _ _).mono ?_
  rintro e w1 ⟨rfl, h1⟩
  obtain ⟨c0, c1, c2, f0, f1, f2, lt⟩ := m0.later h1
  obtain ⟨d0, d1, d2, g0, g1, g2, lt2⟩ := x0.later h1
  cases hf : fitB r c N with
  | false =>
    go_wp2
    simp [bodyPost, results, Tryz.results86, go_sem, d0, d1, d2]
    exact Bl.put3 (b0.trans h1) (Nat.le_succ _) _ _ _
  | true =>
    have hrc : r > c := h.resolve_left (by rw [hf]; nofun)
    go_wp2
    simp [bodyPost, results, Tryz.results86, go_sem, d0, d1, d2]
    exact Bl.put3 (b0.trans h1) (Nat.le_succ _) _ _ _
set_option maxRecDepth 100000 in
set_option maxHeartbeats 4000000 in
theorem hFoldAllF (R C : Nat) (p : Option Addr) (N cap : Nat) (f : Nat → Nat → Fr) (w : World) (h : Mx 3 cellsF w R C p N cap f) (hRC : R ≤ C) :
    Calls Tryz.prog 86 #[mV R C p N cap] w fun e w' => ∃ p' cap', e = .returned (.tuple #[mV R R p' (R * R : Nat) cap', .bool true]) ∧ Mx 3 cellsF w' R R p' (R * R) cap' (foldF R C f) ∧ Bl w w' := by
  obtain ⟨i0, hi, hz0, hz1, hz2⟩ := info_parts Tryz.info_TF
  obtain ⟨j0, hji, jz0, jz1, jz2⟩ := info_parts Tryz.info_F
  refine (callsIn_wide (n := 8)).1 ?_
  have hd := h.1
  have hfit := h.fit
  have hR16 := hd.r2
  have hR1 := hd.r1
  have hC16 := hd.c2
  have HM := hideP h
  obtain ⟨W, hW⟩ : ∃ W, W = (w.alloc (.cells #[.int .i64 R, .int .i64 C, .slice p N cap] 62)).alloc (.cells #[.int .i64 0, .int .i64 0, .slice none 0 0] 62) := ⟨_, rfl⟩
  have b0 : Bl w W := by rw [hW]; exact ((Bl.refl _).alloc _).alloc _
  have m0 : MBox W w.heap.size R C p N cap := by rw [hW]; exact (MBox.new w _ _ _ _ _ _).later ((Bl.refl _).alloc _)
  have x0 : MBox W (w.heap.size + 1) 0 0 none 0 0 := by rw [hW]; have := MBox.new (w.alloc (.cells #[.int .i64 R, .int .i64 C, .slice p N cap] 62)) 0 0 none 0 0 62; rw [World.size_alloc] at this; exact this
  have hs0 : W.heap.size = w.heap.size + 1 + 1 := by rw [hW]; simp
  have HW := hideP hW
  clear hW h hd
  refine callsIn_of_wp_marks Tryz.func86 rfl trivial ?_ rfl
  refine wpIn_wide.2 ?_
  simp only [Tryz.ntmps86, List.size_toArray, List.length_cons, List.length_nil, Nat.reduceAdd, Nat.reduceSub, Array.replicate_succ, Array.replicate_zero, List.push_toArray, List.append_toArray, List.nil_append, List.cons_append]
  go_wp2_with fail
  rw [← HW.out]
  refine (mRightF _ _ _ _ _ _).mono ?_
  rintro e w1 ⟨rfl, h1⟩
  rw [hfit]
  have m1 := m0.later h1
  have x1 := x0.later h1
  obtain ⟨c0, c1, c2, f0, f1, f2, lt⟩ := id m1
  obtain ⟨W1, hW1⟩ : ∃ W1, W1 = w1.alloc (.cells #[.slice none 0 0] 153) := ⟨_, rfl⟩
  have b1 : Bl w1 W1 := by rw [hW1]; exact (Bl.refl _).alloc _
  have bx1 : Boxed W1 w1.heap.size 153 (.slice none 0 0) := by rw [hW1]; exact Boxed.new w1 _ _
  have hs1 : W1.heap.size = w1.heap.size + 1 := by rw [hW1]; simp
  have HW1 := hideP hW1
  clear hW1
  go_wp2_with fail
  rw [← HW1.out]
  have bw1 : Bl w w1 := b0.trans h1
  refine (mAllF R C p N cap f W1 (HM.out.later (bw1.trans b1))).mono ?_
  rintro e w2 ⟨B2, p2, cap2, rfl, hK2, h2⟩
  have HK2 := hideP hK2
  have b12 : Bl w1 w2 := b1.trans h2
  have hs2 : w1.heap.size + 1 ≤ w2.heap.size := by have := h2.size; omega
  have bx2 := boxed_bl bx1 h2
  clear hK2 c0 c1 c2 f0 f1 f2 lt
  go_wp2_with fail
  refine (wpIn_wide (n := 8)).1 (rangeW rfl (by omega) (gf := 153) (lb := #[.pointer (some ⟨B2, 0, none⟩)]) rfl trivial (enters_of Tryz.func153 (by kernel_rfl) rfl)
    (seqMZF 7 B2 _ w2.heap.size R C p2 N cap2 f w2 (Nat.le_refl _) HK2.out) (fun x A B h => h.1) (fun h k => h.trans k) (span_b (Nat.le_refl _)) (fun _ => rfl)
    (fun (pre : List RowX) U => (∃ v, Boxed U w1.heap.size 153 v ∧ U.ownsRow w1.heap.size 60 1 v pre.length (pre.flatMap (hdC C)) ∧ ((∀ b, v.ownBlock = some b → w2.heap.size ≤ b) ∧ ∀ y ∈ pre, v.ownBlock ≠ (rowV C y).ownBlock)) ∧ (RowsZ 3 cellsF w2.heap.size R C f pre U ∧ (Below w1.heap.size w1 U ∧ w2.heap.size ≤ U.heap.size)))
    (fun _ _ _ => False)
    (OwnFrom.and (Own.from (holdsRow_own w1.heap.size w1.heap.size 153 60 1 (fun pre : List RowX => pre.length) (fun pre : List RowX => pre.flatMap (hdC C)) (fun pre v => (∀ b, v.ownBlock = some b → w2.heap.size ≤ b) ∧ ∀ y ∈ pre, v.ownBlock ≠ (rowV C y).ownBlock)) _) (OwnFrom.and (rowsZ_own cellsF_len (by omega) _ _ _ _ HM.out.1.c1 f) (OwnFrom.and (ownFrom_below (Nat.le_refl _) b12.size) (own_size _ _))))
    (fun _ _ _ _ _ hs _ _ => hs)
    ⟨⟨_, bx2, ⟨rfl, .inl ⟨rfl, rfl⟩⟩, nofun, nofun⟩, ⟨nofun, List.Pairwise.nil⟩, b12, Nat.le_refl _⟩
    (fun a pre x a' U => RwZ 3 cellsF U w2.heap.size (rowV C x) (rowM C f x.1) ∧ (∃ v, Boxed U w1.heap.size 153 v ∧ v.ownBlock ≠ (rowV C x).ownBlock) ∧ (x.1 < R ∧ (∀ y ∈ pre, (rowV C y).ownBlock ≠ (rowV C x).ownBlock) ∧ a' = { tmps := (((a.tmps.setIfInBounds 24 (.int .i64 x.1)).setIfInBounds 25 (rowV C x)).setIfInBounds 6 (rowV C x)), defers := [] }))
    (fun pre x a' _ X Y row hs hg hr => ⟨hs.1.own cellsF_len (by omega) (by intro e; have := congrArg List.length e; rw [rowM_len] at this; simp at this; have := HM.out.1.c1; omega) hg (fun r e => (hr r e).2), (by
      obtain ⟨v, hv, hne⟩ := hs.2.1
      refine ⟨v, hv.kept hg (fun e => ?_), hne⟩
      obtain ⟨_, o, ho, hc⟩ := hr _ e.symm
      rw [show X.heap[w1.heap.size]? = _ from hv] at ho; cases ho; cases hc), hs.2.2⟩)
    ?assign ?body ?done ?stop)
  case assign =>
    rintro l pre x W0 U K' ⟨⟨v0, hv0, hrow0, hG0⟩, hrows0, hb0, hsz0⟩ ⟨hbU, hxR, hrz, hcc⟩ hI hK'
    have HK3 := hideP hK'
    have HI := hideP hI
    obtain ⟨bx, capx, ex, _, hlo, _⟩ := id hrz
    have HRZ := hideP (hrz.base hsz0)
    have own : (rowV C x).ownBlock = some bx := by rw [ex]; rfl
    have HV := hideP (show ∃ v, Boxed U w1.heap.size 153 v ∧ v.ownBlock ≠ (rowV C x).ownBlock from ⟨v0, boxed_bl hv0 hbU, by
      rw [own]
      intro e
      have := (hrow0.lt bx e).2
      omega⟩)
    have HN := hideP (show ∀ y ∈ pre, (rowV C y).ownBlock ≠ (rowV C x).ownBlock from fun y hy e => by
      obtain ⟨b, c, e2, _, _, hb, _⟩ := (hrows0.1 y hy).1
      rw [own, e2] at e
      have : b = bx := by cases e; rfl
      omega)
    clear hK' hI hrz hv0 hrow0 hG0 hrows0 hb0 own ex
    gi_wp2
    refine HK3.out _ _ (KeepsFrom.refl _ _) (Span.refl _ _ _) HI.out ⟨HRZ.out, HV.out, hxR, HN.out, ?_⟩
    simp only [List.setIfInBounds_toArray, List.set_cons_zero, List.set_cons_succ]
  case body =>
    rintro l pre x a' U hl' ⟨r, hr'⟩ ⟨⟨v0, hv0, hrow, hG1, hG2⟩, hrows, hbU, hsU⟩ ⟨hrz, ⟨v1, hv1, hne1⟩, hxR, hdis, rfl⟩ hlt
    simp only [List.setIfInBounds_toArray, List.set_cons_zero, List.set_cons_succ]
    have hv01 : v1 = v0 := by
      have e1 := hv1.cell
      rw [hv0.cell] at e1
      exact (Option.some.inj e1).symm
    subst hv01
    have hne0 : some w1.heap.size ≠ v1.ownBlock := hv0.not_row (by decide) hrow
    have HRS := hideP hrows
    have HRZ := hideP hrz
    have HD := hideP hdis
    have HG1 := hideP hG1
    have HG2 := hideP hG2
    have cb := hv0.cell
    have kU : Bl U (U.alloc (.cells #[rowV C x] 60)) := (Bl.refl _).alloc _
    have hvu := boxed_bl hv0 kU
    have hrowu := hrow.alloc (.cells #[rowV C x] 60)
    clear hrows hrz hdis hG1 hG2
    gi_wp2_with (gi_at_builtin; refine wpListIn_append_own_at _ rfl _ _ 153 rfl w1.heap.size 60 i0 (.slice none 0 0) 1 24 Tryz.underlying153 hi hz0 hz1 hz2 rfl (by decide) v1 pre.length (pre.flatMap (hdC C)) rfl hrowu ⟨U.heap.size, 0, none⟩ 1 1 [rowV C x] rfl rfl (cell_one_new _ _ _) (by intro u hu; simp at hu; subst hu; rfl) (by unfold maxLen; omega) (by omega) (by simp; omega) ?_; intro v3 w3 hown3 hgrow3 hnil3 hat3; obtain ⟨g3, c3, rfl⟩ := own_slice8 hown3 (Nat.succ_pos _); have hv3 := hvu.kept hgrow3 hne0; have e3 := hv3.cell; have f3 := hv3.frozen)
    obtain ⟨hv5, hv6, hr6, hk6, hb6⟩ := boxed_appended hvu (by decide) hrowu (by simp; omega) (Nat.le_refl _) hown3 hgrow3
    have hg3 := hgrow3.size
    have e1 : pre ++ [x] = pre ++ [x] := rfl
    refine ⟨(kU.keeps _).trans (hk6.from _), span_appended kU hsU (fun g hg => .inr (HG1.out g hg)) hgrow3 (by omega), ⟨_, hv6, ?_, ?_, ?_⟩, ⟨?_, ?_⟩, ?_, ?_⟩
    · rw [List.length_append, List.flatMap_append]
      simpa using hr6
    · intro b hb
      rcases hat3 with e | e
      · exact HG1.out b (by rw [← e]; exact hb)
      · rw [e] at hb
        cases hb
        simp
        omega
    · intro y hy e
      rcases hat3 with e2 | e2
      · rw [e2] at e
        rcases List.mem_append.1 hy with h | h
        · exact HG2.out y h e
        · have : y = x := by simpa using h
          subst this
          exact hne1 e
      · rw [e2] at e
        rcases List.mem_append.1 hy with h | h
        · obtain ⟨b, c, e4, _, _, hb, _⟩ := (HRS.out.1 y h).1
          rw [e4] at e
          have : (U.alloc (.cells #[rowV C x] 60)).heap.size = b := by cases e; rfl
          simp at this
          omega
        · have : y = x := by simpa using h
          subst this
          obtain ⟨b, c, e4, _, _, hb, _⟩ := HRZ.out
          rw [e4] at e
          have : (U.alloc (.cells #[.slice (some ⟨b, 0, none⟩) (rowM C f y.1).length c] 60)).heap.size = b := Option.some.inj e
          simp at this
          omega
    · intro y hy
      rcases List.mem_append.1 hy with h | h
      · refine ⟨((HRS.out.1 y h).1.later kU).beside hgrow3 (fun g hg => ⟨fun e => HG2.out y h (e.trans hg.symm), fun e => ?_⟩), (HRS.out.1 y h).2⟩
        obtain ⟨b, c, e4, _, hlo, hb, _⟩ := (HRS.out.1 y h).1
        rw [e4] at hg
        have : b = g := by cases hg; rfl
        omega
      · have : y = x := by simpa using h
        subst this
        refine ⟨(HRZ.out.later kU).beside hgrow3 (fun g hg => ⟨fun e => hne1 (e.trans hg.symm), fun e => ?_⟩), hxR⟩
        obtain ⟨b, c, e4, _, hlo, hb, _⟩ := HRZ.out
        rw [e4] at hg
        have : b = g := by cases hg; rfl
        omega
    · refine List.pairwise_append.2 ⟨HRS.out.2, List.pairwise_singleton _ _, fun y hy z hz => ?_⟩
      have : z = x := by simpa using hz
      subst this
      exact HD.out y hy
    · exact hbU.trans ((kU.mono (by have := hbU.size; omega)).trans hb6)
    · simp; have := kU.size; omega
  case stop =>
    rintro D' c pre U _ _ h _
    exact h.elim
  case done =>
    rintro Dm zs U hD hS ⟨⟨v, hv, hrow, hG1, hG2⟩, hrows, hbU, hsU⟩ hKD
    obtain ⟨H, hc, B, cp, rfl, hRc, hH, tb, hBlo⟩ := Tbl.of hS hR1 hrow hrows hG2
    have HH2 := hG1 H rfl
    have hDw : w1.heap.size ≤ Dm := by omega
    have HDB := hideP (show ¬ InT B R Dm from by
      rintro ⟨i, hi', e⟩
      have hc0 := tb.cells i 0 hi' HM.out.1.c1 0 _ rfl
      unfold World.cell? at hc0
      simp only at hc0
      rw [← e, hKD] at hc0
      cases hc0)
    have HHB := hideP (show ¬ InT B R w1.heap.size from by
      rintro ⟨i, hi', e⟩
      have := hBlo i hi'
      omega)
    have HMB := hideP (show ¬ InT B R w.heap.size from by
      rintro ⟨i, hi', e⟩
      have := hBlo i hi'
      have := bw1.size
      omega)
    have HXB := hideP (show ¬ InT B R (w.heap.size + 1) from by
      rintro ⟨i, hi', e⟩
      have := hBlo i hi'
      have := h1.size
      omega)
    have HBL := hideP (show ∀ g, InT B R g → w.heap.size ≤ g from by
      rintro g ⟨i, hi', e⟩
      have := hBlo i hi'
      have := bw1.size
      omega)
    have bU : Bl w1 U := hbU
    have mU := m1.later bU
    have xU := x1.later bU
    have HT0 := hideP tb
    have hdl : Dm < U.heap.size := (Array.getElem?_eq_some_iff.1 hKD).1
    have HKD := hideP hKD
    have HHV := hideP hv
    have cbU := hv.cell
    have hw1U : w1.heap.size < U.heap.size := hv.lt
    clear tb hKD hv hrow hrows hS hG1 hG2 hbU
    go_wp2_with fail
    go_loopw [32] (fun v wr => ∃ j : Nat, v = .int .i64 j ∧ j ≤ R ∧ Tbl 3 cellsF wr H B cp R C (foldL kdF lowFr C f j) ∧ But (InT B R) U wr) (fun v _ => R - (intOf v).toNat)
    case atStart => exact ⟨0, rfl, Nat.zero_le _, HT0.out, But.refl _ _⟩
    case round =>
      obtain ⟨j, rfl, hj, tbj, bt⟩ := hrel
      have HT := hideP tbj
      clear tbj
      have bxr : Boxed wr w1.heap.size 153 (.slice (some ⟨H, 0, none⟩) R hc) := (bt.block _ hw1U HHB.out).trans HHV.out
      have cbr := bxr.cell
      by_cases hlt : j < R
      · go_wp2_with fail
        refine (hFoldF H hc B cp R C j (foldL kdF lowFr C f j) wr HT.out hlt hRC (by omega) hRc).mono ?_
        rintro e w5 ⟨⟨v5, rfl⟩, tb5, bt5⟩
        have HT5 := hideP tb5
        have bt5' := bt.trans bt5
        clear tb5 cbr
        go_wp2
        go_roundw
        case rel => exact ⟨j + 1, by simp, hlt, HT5.out, bt5'⟩
        case measure => simp [intOf]; omega
      · obtain rfl : j = R := by omega
        obtain ⟨wq, hwq⟩ : ∃ wq : World, wq = wr := ⟨_, rfl⟩
        subst hwq
        obtain ⟨F, hF⟩ : ∃ F, F = foldL kdF lowFr C f j := ⟨_, rfl⟩
        rw [← hF] at HT
        have HF := hideP hF
        obtain ⟨rr, hrr⟩ : ∃ rr, rr = j * j := ⟨_, rfl⟩
        have hrr256 : rr ≤ 256 := by rw [hrr]; exact Nat.mul_le_mul hR16 hR16
        have hRR : (j : Int) * (j : Int) = (rr : Int) := by rw [hrr, Int.natCast_mul]
        have HRR := hideP hrr
        have mr : MBox wq w.heap.size j C p N cap := mbox_block mU (bt.block _ mU.lt HMB.out) bt.size
        have xr : MBox wq (w.heap.size + 1) 0 0 none 0 0 := mbox_block xU (bt.block _ xU.lt HXB.out) bt.size
        have HDr := hideP ((bt.block _ hdl HDB.out).trans HKD.out)
        have BWr : Bl w wq := bt.bl (bw1.trans bU) HBL.out
        obtain ⟨c0, c1, c2, f0, f1, f2, lt⟩ := id mr
        clear hF hrr
        go_wp2_with (at_make; refine wpList_make_own _ rfl _ _ 60 rfl wq.heap.size 66 j0 (.agg #[.int .i64 0, .int .i64 0, .bool false]) 3 Tryz.underlying60 hji jz0 jz1 .i64 .i64 _ rr rfl rfl (by simp) (by rw [jz2]; omega) (by unfold maxLen; omega) (Nat.le_refl _) ?_; intro w6 hown6 hgrow6; have h6 : Bl wq w6 := ⟨hgrow6.os, hgrow6.tape, hgrow6.output, hgrow6.size, fun k hk => hgrow6.block k hk nofun⟩; have bx6 := boxed_bl bxr h6; have cb6 := bx6.cell; have HO6 := hideP hown6; clear hown6 hgrow6 c0 c1 c2 f0 f1 f2 lt cbr)
        clear cb6
        go_loopw [47, 8] (fun va vb wr => ∃ i : Nat, va = .int .i64 i ∧ i ≤ j ∧ wr.ownsRow wq.heap.size 66 3 vb (mk i j F).length ((mk i j F).flatMap cellsF) ∧ Bl wq wr) (fun va _ _ => j - (intOf va).toNat)
        case atStart => exact ⟨0, rfl, Nat.zero_le _, HO6.out, h6⟩
        case round =>
          obtain ⟨i, rfl, hi', hown, b8⟩ := hrel
          have HO := hideP hown
          clear hown
          have m8 := mr.later b8
          by_cases hil : i < j
          · have hd8 := (bl_cell b8 _ _ HT.out.hlt).trans (HT.out.hdr i hil)
            have hcap8 := HT.out.cap i hil
            have RF := (HT.out.later b8).first (q := j) hil hRC
            obtain ⟨bi, hbi⟩ : ∃ bi, bi = B i := ⟨_, rfl⟩
            obtain ⟨ci, hci⟩ : ∃ ci, ci = cp i := ⟨_, rfl⟩
            rw [← hbi, ← hci] at hd8 RF
            rw [← hci] at hcap8
            have SRC := hideP (show ∀ t u, ((rowM j F i).flatMap cellsF)[t]? = some u → wr.cell? ((⟨bi, 0, none⟩ : Addr).add t) = some u from by
              rcases RF with ⟨_, _, _, e0, _⟩ | ⟨b9, o9, cap9, e9, _, _, hx⟩
              · have := congrArg List.length e0; rw [rowM_len] at this; simp at this; omega
              · simp only [Value.slice.injEq, Option.some.injEq, Addr.mk.injEq] at e9
                obtain ⟨⟨rfl, rfl, _⟩, _, _⟩ := e9
                exact flat_cells cellsF_len hx)
            have sl := fun u => Tryz.frontF bi C ci j u (by omega) (by omega)
            have hlen : (mk i j F).length ≤ 256 := by
              rw [mk_len]
              exact Nat.mul_le_mul (show i ≤ 16 by omega) hR16
            obtain ⟨c0, c1, c2, f0, f1, f2, lt⟩ := id m8
            clear hbi hci RF
            go_wp2_with (at_builtin; refine wpList_append_own _ rfl _ _ 60 rfl wq.heap.size 66 j0 (.agg #[.int .i64 0, .int .i64 0, .bool false]) 3 24 Tryz.underlying60 hji jz0 jz1 jz2 rfl (by decide) _ _ _ rfl HO.out ⟨bi, 0, none⟩ j ci ((rowM j F i).flatMap cellsF) rfl (by rw [flat_len cellsF_len, rowM_len]) SRC.out (flat_one oneF_cells _) (by unfold maxLen; omega) (by omega) b8.size ?_; intro v9 w9 hown9 hgrow9 _)
            have HO9 := hideP (show w9.ownsRow wq.heap.size 66 3 v9 (mk (i + 1) j F).length ((mk (i + 1) j F).flatMap cellsF) by
              rw [mk_succ, List.length_append, List.flatMap_append, rowM_len]
              exact hown9)
            have b9 : Bl wq w9 := Below.grown b8 hgrow9 b8.size (fun k hk => (HO.out.lt k hk).1)
            clear hown9 hgrow9 SRC sl hd8 c0 c1 c2 f0 f1 f2 lt
            go_wp2
            go_roundw
            case rel => exact ⟨i + 1, by simp, hil, HO9.out, b9⟩
            case measure => simp [intOf]; omega
          · obtain rfl : i = j := by omega
            have RW8 := Rw.of_own cellsF_len HO.out
            obtain ⟨p8, c8, ev8, _, _⟩ := RW8.cut
            rw [mk_len, ← HRR.out] at ev8
            subst ev8
            have HMX := hideP (show Mx 3 cellsF wr i i p8 rr c8 F from ⟨⟨hR1, hR16, hR1, hR16⟩, HRR.out, RW8.q⟩)
            obtain ⟨c0, c1, c2, f0, f1, f2, lt⟩ := id m8
            have BW8 : Bl w wr := BWr.trans b8
            have hD8 := (Below.block b8 Dm (Array.getElem?_eq_some_iff.1 HDr.out).1).trans HDr.out
            have HD8 := hideP hD8
            clear RW8 hD8
            go_wp2_with fail
            refine (hSignsF i p8 rr c8 F wr HMX.out).mono ?_
            rintro e w9 ⟨p9, c9, rfl, ⟨hm9, hf9⟩, h9⟩
            have HM9 := hideP hm9
            have HF9 := hideP hf9
            have x9 := (xr.later b8).later h9
            have BW9 : Bl w w9 := BW8.trans h9
            have hD9 := (Below.block h9 Dm (Array.getElem?_eq_some_iff.1 HD8.out).1).trans HD8.out
            have HD9 := hideP hD9
            clear hm9 hf9 hD9 c0 c1 c2 f0 f1 f2 lt
            obtain ⟨c0, c1, c2, f0, f1, f2, lt⟩ := id x9
            go_wp2
            obtain ⟨W9, hW9⟩ : ∃ W9, W9 = ((w9.setCell ⟨w.heap.size + 1, 0, none⟩ (.int .i64 i)).setCell ⟨w.heap.size + 1, 1, none⟩ (.int .i64 i)).setCell ⟨w.heap.size + 1, 2, none⟩ (.slice p9 rr c9) := ⟨_, rfl⟩
            have fl := x9.fill i i p9 rr c9
            have hK9 : W9.heap[Dm]? = some (.deferred (some [])) := by
              rw [hW9]
              exact (KeepsOthers.setCell _ _ _).same Dm _ ((KeepsOthers.setCell _ _ _).same Dm _ ((KeepsOthers.setCell _ _ _).same Dm _ HD9.out rfl) rfl) rfl
            have hm9 : Mx 3 cellsF W9 i i p9 rr c9 (signsH kdF (fun j => lowFr (F j j)) F) := by
              rw [hW9]
              exact mx_ne7 HM9.out (fun b hb => by have := HF9.out b hb; have := (xr.later b8).lt; omega) _ _ _
            have B9 : Bl w W9 := by rw [hW9]; exact Bl.put3 BW9 (Nat.le_succ _) _ _ _
            rw [← hW9] at fl
            refine ⟨by simp, .inl ⟨_, _, rfl, run_takeDeferred (by rw [← hW9]; exact hK9), ?_⟩⟩
            rw [← hW9]
            have gk := grownBy_putObj' W9 Dm (.deferred none)
            have gr : ∀ r, some Dm = some r → ∃ o : Obj, W9.heap[r]? = some o ∧ o.isCells = false := fun r e => by cases e; exact ⟨_, hK9, rfl⟩
            have d0 := cell_kept fl.c0 gk gr
            have d1 := cell_kept fl.c1 gk gr
            have d2 := cell_kept fl.c2 gk gr
            refine ⟨.tuple #[mV i i p9 rr c9, .bool true], ?_, ⟨p9, c9, by rw [HRR.out], ?_, ?_⟩⟩
            · simp [results, Tryz.f86, go_sem, d0, d1, d2]
            · rw [← HRR.out]
              unfold foldF
              rw [← HF.out]
              exact mx_own8 hm9 gk gr
            · exact Below.trans B9 (belowK_b (w := w) (Nat.le_refl _) W9 Dm _ _ (by have := bw1.size; omega) hK9 rfl rfl)
end Go.Proofs.YtlbmkjicbkfmjaaGreat

/- awake of layer 8's laws. -/
namespace Go.Proofs.YtlbmkjicbkfmjaaGreat
open Go.RowKit
set_option linter.unusedSimpArgs false
set_option linter.unusedVariables false

theorem fold345 (f : Nat → Nat → Fr) (h0 : f 0 0 = itF 3) (h1 : f 0 1 = itF 4) : foldF 1 2 f 0 0 = itF 5 := by
  have ht : tailH 2 0 (f 0) = [3, 4].map itF := by simp [tailH, List.range_succ, h0, h1]
  have hs : Sml 4 [3, 4] := by intro x hx; simp at hx; omega
  have hd : dotF (tailH 2 0 (f 0)) (tailH 2 0 (f 0)) = itF (5 * 5) := by
    rw [ht, dot_it hs hs (by omega) (by omega) (by simp) (by omega)]
    rfl
  have hp : foldL kdF lowFr 2 f 1 0 0 = itF (-5) := by
    show foldStep kdF 2 0 (lowFr (f 0 0)) f 0 0 = _
    unfold foldStep
    rw [if_pos rfl, if_pos rfl]
    unfold pH
    rw [show lowFr (f 0 0) = false by rw [h0]; decide, if_neg (by simp)]
    show negR (rootR (dotF (tailH 2 0 (f 0)) (tailH 2 0 (f 0)))) = _
    rw [hd, root_it (by omega) (by omega), neg_itH ⟨by omega, by omega⟩]
  have hl : lowFr (foldL kdF lowFr 2 f 1 0 0) = true := by rw [hp]; decide
  unfold foldF signsH
  rw [if_pos ⟨Nat.le_refl _, hl⟩, hp]
  show negR (itF (-5)) = _
  rw [neg_itH ⟨by omega, by omega⟩]
  rfl
theorem rq_pair8 (w : World) (x y : Int) (t : TypeId) : Rq 1 (fun n => [.int .i64 n]) (w.alloc (.cells #[.int .i64 x, .int .i64 y] t)) (.slice (some ⟨w.heap.size, 0, none⟩) 2 2) [x, y] := by
  refine .inr ⟨w.heap.size, 0, 2, rfl, Nat.le_refl _, by simp, fun j v hj k s hu => ?_⟩
  rcases k with _ | k
  · simp at hu
    subst hu
    rcases j with _ | _ | j
    · simp at hj; subst hj; simp [go_sem]
    · simp at hj; subst hj; simp [go_sem]
    · simp at hj
  · simp at hu
theorem whole12 (w : World) (t : TypeId) (b0 : Nat) (hb0 : b0 = w.heap.size) : Calls Tryz.prog 27 #[.int .i64 1, .int .i64 2, .slice (some ⟨b0, 0, none⟩) 2 2] (w.alloc (.cells #[.int .i64 3, .int .i64 4] t))
    fun e w' => ∃ p' cap', e = .returned (.tuple #[mV 1 2 p' 2 cap', .bool true]) ∧ Mx 3 cellsF w' 1 2 p' 2 cap' (fun _ k => if k = 0 then itF 3 else itF 4) ∧ Bl (w.alloc (.cells #[.int .i64 3, .int .i64 4] t)) w' := by
  subst hb0
  refine (mWholeF 1 2 _ 2 2 [3, 4] _ (rq_pair8 w 3 4 t) (by decide) rfl).mono ?_
  rintro e w' ⟨p', cap', rfl, hr, hb⟩
  exact ⟨p', cap', rfl, ⟨⟨by omega, by omega, by omega, by omega⟩, rfl, hr.q⟩, hb⟩
set_option maxHeartbeats 1000000 in
theorem awake8_any (w : World) : Calls Tryz.prog 34 #[] w fun e w' => e = .returned (.bool true) ∧ Bl w w' := by
  have EQ : ∀ u, (binOp .eql 66 (frV (itF 5)) (frV (itF 5))).run Tryz.prog u = .ok (.bool true) u := fun u => eql_fr (itF 5) (itF 5) u
  go_enter Tryz.func34, Tryz.ntmps34
  go_wp2_with fail
  refine (whole12 w _ _ rfl).mono ?_
  rintro e w1 ⟨p1, c1, rfl, hx, h1⟩
  have HX := hideP hx
  clear hx
  have m1 := MBox.new w1 1 2 p1 2 c1 62
  go_wp2_with fail
  refine (hFoldAllF 1 2 p1 2 c1 _ _ (HX.out.later ((Bl.refl _).alloc _)) (by omega)).mono ?_
  rintro e w2 ⟨p2, c2, rfl, hy, h2⟩
  have HY := hideP hy
  clear hy
  have m3 := MBox.new w2 1 1 p2 1 c2 62
  obtain ⟨x0, x1, x2, _, _, _, lt⟩ := m3
  go_wp2_with fail
  refine (mAtF 1 1 p2 1 c2 _ _ (HY.out.later ((Bl.refl _).alloc _)) 0 0 (by omega) (by omega)).mono ?_
  rintro e w4 ⟨rfl, h4⟩
  rw [fold345 _ rfl rfl]
  go_wp2_with fail
  refine (new_any 5 1 _).mono ?_
  rintro e w5 ⟨rfl, h5⟩
  rw [new_it (n := 5) ⟨by omega, by omega⟩]
  clear x0 x1 x2
  go_wp2
  go_ret
  exact ⟨rfl, (((((Bl.refl w).alloc _).trans h1).alloc _).trans h2).trans (((Bl.refl w2).alloc _).trans (h4.trans h5))⟩
end Go.Proofs.YtlbmkjicbkfmjaaGreat
