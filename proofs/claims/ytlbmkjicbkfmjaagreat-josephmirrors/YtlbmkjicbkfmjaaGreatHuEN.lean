/- Contract of house's negate, of enclosed numbers (layer 8). Written by genHu.py. -/
import Derived.Test.YtlbmkjicbkfmjaaGreatHuDN
namespace Go.Proofs.YtlbmkjicbkfmjaaGreat
open Go.RowKit Go.Shelf
set_option linter.unusedSimpArgs false
set_option linter.unusedVariables false
attribute [local go_sem] Oper.semAt_some

set_option maxRecDepth 100000 in
set_option maxHeartbeats 4000000 in
theorem hNegateN (n g N cap : Nat) (f : Nat → Nat → En) (w : World) (lo : Nat) (hd : Dim n n) (hN : N = n * n) (h : RwZ 4 cellsN w lo (.slice (some ⟨g, 0, none⟩) N cap) (mk n n f)) (k : Nat) (hkn : k < n) :
    Calls Tryz.prog 133 #[mV n n (some ⟨g, 0, none⟩) N cap, .int .i64 k] w fun e w' => (∃ v, e = .returned v) ∧ RwZ 4 cellsN w' lo (.slice (some ⟨g, 0, none⟩) N cap) (mk n n (negTo negE k n f)) ∧ But (fun b => b = g) w w' := by
  have fm : Tryz.prog.follows .mixedOrders = true := by kernel_rfl
  have egA := enters_of Tryz.func70 (by kernel_rfl) rfl
  have egN := enters_of Tryz.func204 (by kernel_rfl) rfl
  have hn16 := hd.r2
  have HN := hideP hN
  have HD := hideP hd
  obtain ⟨W, hW⟩ : ∃ W, W = w.alloc (.cells #[.int .i64 n, .int .i64 n, .slice (some ⟨g, 0, none⟩) N cap] 24) := ⟨_, rfl⟩
  have b0 : Bl w W := by rw [hW]; exact (Bl.refl _).alloc _
  have m0 : MBox W w.heap.size n n (some ⟨g, 0, none⟩) N cap := by rw [hW]; exact MBox.new w _ _ _ _ _ _
  have hglt := h.glt
  have H0 := hideP (show RwZ 4 cellsN W lo (.slice (some ⟨g, 0, none⟩) N cap) (mk n n (negTo negE k k f)) by rw [mk_congr (fun i j _ _ => show negTo negE k k f i j = f i j from if_neg (by omega))]; exact h.later b0)
  have HW := hideP hW
  clear hW h hd hN
  go_enter Tryz.func133, Tryz.ntmps133
  go_wp2_with fail
  rw [← HW.out]
  go_loopw [4] (fun v wr => ∃ i : Nat, v = .int .i64 i ∧ k ≤ i ∧ i ≤ n ∧ RwZ 4 cellsN wr lo (.slice (some ⟨g, 0, none⟩) N cap) (mk n n (negTo negE k i f)) ∧ But (fun b => b = g) W wr) (fun v _ => n - (intOf v).toNat)
  case atStart => exact ⟨k, rfl, Nat.le_refl _, by omega, H0.out, But.refl _ _⟩
  case round =>
    obtain ⟨i, rfl, hki, hin, hr, bt⟩ := hrel
    have HR := hideP hr
    clear hr
    have mb : MBox wr w.heap.size n n (some ⟨g, 0, none⟩) N cap := mbox_block m0 (bt.block _ m0.lt (by show ¬ w.heap.size = g; omega)) bt.size
    by_cases hlt : i < n
    · obtain ⟨a, q, e1, e2, hq1, hq3, hq5, hq6⟩ := place HD.out hlt hkn
      rw [← HN.out] at hq5
      have HP := hideP e2
      clear e1 e2
      obtain ⟨x, hx⟩ : ∃ x, x = negTo negE k i f i k := ⟨_, rfl⟩
      obtain ⟨y, hy⟩ : ∃ y, y = negE x := ⟨_, rfl⟩
      have AT := hideP (fun u (hu : Bl wr u) => mAtN n n (some ⟨g, 0, none⟩) N cap (negTo negE k i f) u ⟨HD.out, HN.out, (HR.out.later hu).rw.q⟩ i k hlt hkn)
      rw [← hx] at AT
      have NEG := hideP (fun u => by have := eneg_any x u; rw [← hy] at this; exact this)
      have HS := hideP (show negTo negE k (i + 1) f = putM (negTo negE k i f) i k y by rw [hy, hx]; exact negTo_next negE hki f)
      have CX := hideP (show ∀ j u, (cellsN x)[j]? = some u → wr.cell? ⟨g, q * 4 + j, none⟩ = some u from fun j u hu => by
        obtain ⟨g', c', e, _, _, _, _, hc⟩ := HR.out
        cases e
        exact hc q x (by rw [HP.out, mk_get _ hlt hkn, hx]) j u hu)
      have FZ := hideP (show ∀ j, wr.frozen? ⟨g, j, none⟩ = false from fun j => by
        obtain ⟨g', c', e, _, _, _, hf, _⟩ := HR.out
        cases e
        exact hf j)
      have hgl : g < wr.heap.size := HR.out.glt
      have WA : IntKind.i64.wrap (a : Int) = a := wrapS7 (by omega) (by have := HD.out.lt; have := HN.out; omega)
      have WQ : IntKind.i64.wrap (q : Int) = q := wrapS7 (by omega) (by have := HD.out.lt; have := HN.out; omega)
      clear hx hy
      obtain ⟨c0, c1, c2, f0, f1, f2, lt⟩ := id mb
      go_wp2_with fail
      refine (wpIn_wide (n := 8)).1 (region_q fm [some 12, some 13, some 14, some 15, some 16, some 17, some 18, some 19, some 20, some 21, some 22, some 23, some 24, some 25, some 26, none] (fun _ => false) 15 (by kernel_rfl) (by rfl)
        (fun j v u => match j with | 0 => v = .pointer (some ⟨w.heap.size, 2, none⟩) | 1 => v = .slice (some ⟨g, 0, none⟩) N cap | 2 => v = .int .i64 i | 3 => v = .pointer (some ⟨w.heap.size, 1, none⟩) | 4 => v = .int .i64 n | 5 => v = .int .i64 a | 6 => v = .int .i64 k | 7 => v = .int .i64 q | 8 => v = mV n n (some ⟨g, 0, none⟩) N cap | 9 => v = .int .i64 i | 10 => v = .int .i64 k | 11 => v = enV x | 12 => v = .iface 28 (enV x) | 13 => v = enV y | 14 => v = .pointer (some ⟨g, q * 4, none⟩) | _ => False)
        (fun j v u u' _ h => h) (fun vs u0 u => u = u0.setCells g (q * 4) (cellsN y)) ?step ?still ?store ?fin)
      case step =>
        intro j o t act u ho hdt hpu hsz hu hfr hin
        have hj : j < 16 := (Array.getElem?_eq_some_iff.1 ho).1
        obtain ⟨c0, c1, c2, f0, f1, f2, lt⟩ := mb.later hu
        rcases (by omega : j = 0 ∨ j = 1 ∨ j = 2 ∨ j = 3 ∨ j = 4 ∨ j = 5 ∨ j = 6 ∨ j = 7 ∨ j = 8 ∨ j = 9 ∨ j = 10 ∨ j = 11 ∨ j = 12 ∨ j = 13 ∨ j = 14 ∨ j = 15) with rfl | rfl | rfl | rfl | rfl | rfl | rfl | rfl | rfl | rfl | rfl | rfl | rfl | rfl | rfl | rfl
        · simp only [List.getElem?_toArray, List.getElem?_cons_zero, List.getElem?_cons_succ, Option.some.injEq] at ho
          subst ho
          obtain rfl := Option.some.inj hdt
          have i2 : act.eval (.tmp (2 : Nat)) = .pointer (some ⟨w.heap.size, 0, none⟩) := hfr 2 (by decide)
          exact plain_wp (by intro c h; cases h) (fun _ _ => trivial) (by simp only [execOp, i2, evalC, evalF, evalG]; simp [go_sem, c0, c1, c2, hq1, hq3, hq5, WA, WQ]) ⟨_, rfl, rfl, Bl.refl _⟩
        · simp only [List.getElem?_toArray, List.getElem?_cons_zero, List.getElem?_cons_succ, Option.some.injEq] at ho
          subst ho
          obtain rfl := Option.some.inj hdt
          have i12 : (act.eval (.tmp (12 : Nat))) = .pointer (some ⟨w.heap.size, 2, none⟩) := hin ⟨0, .data⟩ (by simp) rfl 12 rfl
          exact plain_wp (by intro c h; cases h) (fun _ _ => trivial) (by simp only [execOp, i12, evalC, evalF, evalG]; simp [go_sem, c0, c1, c2, hq1, hq3, hq5, WA, WQ]) ⟨_, rfl, rfl, Bl.refl _⟩
        · simp only [List.getElem?_toArray, List.getElem?_cons_zero, List.getElem?_cons_succ, Option.some.injEq] at ho
          subst ho
          obtain rfl := Option.some.inj hdt
          have i4 : act.eval (.tmp (4 : Nat)) = .int .i64 i := hfr 4 (by decide)
          exact plain_wp (by intro c h; cases h) (fun _ _ => trivial) (by simp only [execOp, i4, evalC, evalF, evalG]; simp [go_sem]) ⟨_, rfl, rfl, Bl.refl _⟩
        · simp only [List.getElem?_toArray, List.getElem?_cons_zero, List.getElem?_cons_succ, Option.some.injEq] at ho
          subst ho
          obtain rfl := Option.some.inj hdt
          have i2 : act.eval (.tmp (2 : Nat)) = .pointer (some ⟨w.heap.size, 0, none⟩) := hfr 2 (by decide)
          exact plain_wp (by intro c h; cases h) (fun _ _ => trivial) (by simp only [execOp, i2, evalC, evalF, evalG]; simp [go_sem, c0, c1, c2, hq1, hq3, hq5, WA, WQ]) ⟨_, rfl, rfl, Bl.refl _⟩
        · simp only [List.getElem?_toArray, List.getElem?_cons_zero, List.getElem?_cons_succ, Option.some.injEq] at ho
          subst ho
          obtain rfl := Option.some.inj hdt
          have i15 : (act.eval (.tmp (15 : Nat))) = .pointer (some ⟨w.heap.size, 1, none⟩) := hin ⟨3, .data⟩ (by simp) rfl 15 rfl
          exact plain_wp (by intro c h; cases h) (fun _ _ => trivial) (by simp only [execOp, i15, evalC, evalF, evalG]; simp [go_sem, c0, c1, c2, hq1, hq3, hq5, WA, WQ]) ⟨_, rfl, rfl, Bl.refl _⟩
        · simp only [List.getElem?_toArray, List.getElem?_cons_zero, List.getElem?_cons_succ, Option.some.injEq] at ho
          subst ho
          obtain rfl := Option.some.inj hdt
          have i14 : (act.eval (.tmp (14 : Nat))) = .int .i64 i := hin ⟨2, .data⟩ (by simp) rfl 14 rfl
          have i16 : (act.eval (.tmp (16 : Nat))) = .int .i64 n := hin ⟨4, .data⟩ (by simp) rfl 16 rfl
          exact plain_wp (by intro c h; cases h) (fun _ _ => trivial) (by simp only [execOp, i14, i16, evalC, evalF, evalG]; simp [go_sem, c0, c1, c2, hq1, hq3, hq5, WA, WQ]) ⟨_, rfl, rfl, Bl.refl _⟩
        · simp only [List.getElem?_toArray, List.getElem?_cons_zero, List.getElem?_cons_succ, Option.some.injEq] at ho
          subst ho
          obtain rfl := Option.some.inj hdt
          have i1 : act.eval (.tmp (1 : Nat)) = .int .i64 k := hfr 1 (by decide)
          exact plain_wp (by intro c h; cases h) (fun _ _ => trivial) (by simp only [execOp, i1, evalC, evalF, evalG]; simp [go_sem]) ⟨_, rfl, rfl, Bl.refl _⟩
        · simp only [List.getElem?_toArray, List.getElem?_cons_zero, List.getElem?_cons_succ, Option.some.injEq] at ho
          subst ho
          obtain rfl := Option.some.inj hdt
          have i17 : (act.eval (.tmp (17 : Nat))) = .int .i64 a := hin ⟨5, .data⟩ (by simp) rfl 17 rfl
          have i18 : (act.eval (.tmp (18 : Nat))) = .int .i64 k := hin ⟨6, .data⟩ (by simp) rfl 18 rfl
          exact plain_wp (by intro c h; cases h) (fun _ _ => trivial) (by simp only [execOp, i17, i18, evalC, evalF, evalG]; simp [go_sem, c0, c1, c2, hq1, hq3, hq5, WA, WQ]) ⟨_, rfl, rfl, Bl.refl _⟩
        · simp only [List.getElem?_toArray, List.getElem?_cons_zero, List.getElem?_cons_succ, Option.some.injEq] at ho
          subst ho
          obtain rfl := Option.some.inj hdt
          have i2 : act.eval (.tmp (2 : Nat)) = .pointer (some ⟨w.heap.size, 0, none⟩) := hfr 2 (by decide)
          exact plain_wp (by intro c h; cases h) (fun _ _ => trivial) (by simp only [execOp, i2, evalC, evalF, evalG]; simp [go_sem, c0, c1, c2, hq1, hq3, hq5, WA, WQ]) ⟨_, rfl, rfl, Bl.refl _⟩
        · simp only [List.getElem?_toArray, List.getElem?_cons_zero, List.getElem?_cons_succ, Option.some.injEq] at ho
          subst ho
          obtain rfl := Option.some.inj hdt
          have i4 : act.eval (.tmp (4 : Nat)) = .int .i64 i := hfr 4 (by decide)
          exact plain_wp (by intro c h; cases h) (fun _ _ => trivial) (by simp only [execOp, i4, evalC, evalF, evalG]; simp [go_sem]) ⟨_, rfl, rfl, Bl.refl _⟩
        · simp only [List.getElem?_toArray, List.getElem?_cons_zero, List.getElem?_cons_succ, Option.some.injEq] at ho
          subst ho
          obtain rfl := Option.some.inj hdt
          have i1 : act.eval (.tmp (1 : Nat)) = .int .i64 k := hfr 1 (by decide)
          exact plain_wp (by intro c h; cases h) (fun _ _ => trivial) (by simp only [execOp, i1, evalC, evalF, evalG]; simp [go_sem]) ⟨_, rfl, rfl, Bl.refl _⟩
        · simp only [List.getElem?_toArray, List.getElem?_cons_zero, List.getElem?_cons_succ, Option.some.injEq] at ho
          subst ho
          obtain rfl := Option.some.inj hdt
          have i20 : (act.eval (.tmp (20 : Nat))) = mV n n (some ⟨g, 0, none⟩) N cap := hin ⟨8, .data⟩ (by simp) rfl 20 rfl
          have i21 : (act.eval (.tmp (21 : Nat))) = .int .i64 i := hin ⟨9, .data⟩ (by simp) rfl 21 rfl
          have i22 : (act.eval (.tmp (22 : Nat))) = .int .i64 k := hin ⟨10, .data⟩ (by simp) rfl 22 rfl
          refine enter_wp 70 #[mV n n (some ⟨g, 0, none⟩) N cap, .int .i64 i, .int .i64 k] (by intro c h; cases h) (fun _ _ => trivial) (by simp only [execOp, evalC, evalF, evalG, resolve, i20, i21, i22, List.map_toArray, List.map_cons, List.map_nil]; simp [invoke, egA, Result.andThen, go_sem]) (by intro h; cases h) (callsIn_wide.2 (AT.out u hu)) ?_
          rintro e w' ⟨rfl, hb⟩
          exact ⟨_, rfl, _, rfl, rfl, hb⟩
        · simp only [List.getElem?_toArray, List.getElem?_cons_zero, List.getElem?_cons_succ, Option.some.injEq] at ho
          subst ho
          obtain rfl := Option.some.inj hdt
          have i23 : (act.eval (.tmp (23 : Nat))) = enV x := hin ⟨11, .data⟩ (by simp) rfl 23 rfl
          exact plain_wp (by intro c h; cases h) (fun _ _ => trivial) (by simp only [execOp, i23, evalC, evalF, evalG]; simp [go_sem, c0, c1, c2, hq1, hq3, hq5, WA, WQ]) ⟨_, rfl, rfl, Bl.refl _⟩
        · simp only [List.getElem?_toArray, List.getElem?_cons_zero, List.getElem?_cons_succ, Option.some.injEq] at ho
          subst ho
          obtain rfl := Option.some.inj hdt
          have i24 : (act.eval (.tmp (24 : Nat))) = .iface 28 (enV x) := hin ⟨12, .data⟩ (by simp) rfl 24 rfl
          have iv := Tryz.hNegN
          refine enter_wp 204 #[enV x] (by intro c h; cases h) (fun _ _ => trivial) (by simp only [execOp, evalC, evalF, evalG, resolve, i24, List.map_toArray, List.map_cons, List.map_nil]; simp [invoke, iv, egN, Result.andThen, go_sem]) (by intro h; cases h) (callsIn_wide.2 (NEG.out u)) ?_
          rintro e w' ⟨rfl, hb⟩
          exact ⟨_, rfl, _, rfl, rfl, hb⟩
        · simp only [List.getElem?_toArray, List.getElem?_cons_zero, List.getElem?_cons_succ, Option.some.injEq] at ho
          subst ho
          obtain rfl := Option.some.inj hdt
          have i13 : (act.eval (.tmp (13 : Nat))) = .slice (some ⟨g, 0, none⟩) N cap := hin ⟨1, .data⟩ (by simp) rfl 13 rfl
          have i19 : (act.eval (.tmp (19 : Nat))) = .int .i64 q := hin ⟨7, .data⟩ (by simp) rfl 19 rfl
          exact plain_wp (by intro c h; cases h) (fun _ _ => trivial) (by simp only [execOp, i13, i19, evalC, evalF, evalG]; simp [go_sem, c0, c1, c2, hq1, hq3, hq5, WA, WQ]) ⟨_, rfl, rfl, Bl.refl _⟩
        · simp only [List.getElem?_toArray, List.getElem?_cons_zero, List.getElem?_cons_succ, Option.some.injEq] at ho
          subst ho
          cases hdt
      case still =>
        intro j o t act u0 u ho hdt hpu
        cases hpu
      case store =>
        intro o act u vs ho hsz hu hfr hin
        simp only [List.getElem?_toArray, List.getElem?_cons_zero, List.getElem?_cons_succ, Option.some.injEq] at ho
        subst ho
        obtain ⟨i25, k25⟩ : act.eval (.tmp (25 : Nat)) = vs 13 ∧ ((vs 13) = enV y) := hin 13 25 rfl rfl
        obtain ⟨i26, k26⟩ : act.eval (.tmp (26 : Nat)) = vs 14 ∧ ((vs 14) = .pointer (some ⟨g, q * 4, none⟩)) := hin 14 26 rfl rfl
        have y0 : u.cell? ⟨g, q * 4, none⟩ = some (.int .i64 x.v) := (bl_cell hu _ _ hgl).trans (CX.out 0 _ rfl); have e0 : u.frozen? ⟨g, q * 4, none⟩ = false := (bl_froz hu _ _ hgl).trans (FZ.out _); have y1 : u.cell? ⟨g, q * 4 + 1, none⟩ = some (.int .i64 x.l) := (bl_cell hu _ _ hgl).trans (CX.out 1 _ rfl); have e1 : u.frozen? ⟨g, q * 4 + 1, none⟩ = false := (bl_froz hu _ _ hgl).trans (FZ.out _); have y2 : u.cell? ⟨g, q * 4 + 2, none⟩ = some (.int .i64 x.h) := (bl_cell hu _ _ hgl).trans (CX.out 2 _ rfl); have e2 : u.frozen? ⟨g, q * 4 + 2, none⟩ = false := (bl_froz hu _ _ hgl).trans (FZ.out _); have y3 : u.cell? ⟨g, q * 4 + 3, none⟩ = some (.bool x.bad) := (bl_cell hu _ _ hgl).trans (CX.out 3 _ rfl); have e3 : u.frozen? ⟨g, q * 4 + 3, none⟩ = false := (bl_froz hu _ _ hgl).trans (FZ.out _)
        rw [k25] at i25
        rw [k26] at i26
        exact skip_wp (by intro c h; cases h) (fun _ _ => trivial) (by simp only [execOp, i25, i26]; simp [go_sem, y0, e0, y1, e1, y2, e2, y3, e3]; rfl) ⟨rfl, rfl⟩
      case fin =>
        intro vs vb u0 u hu hin hps
        have a0 := hin 0 12 rfl
        have a1 := hin 1 13 rfl
        have a2 := hin 2 14 rfl
        have a3 := hin 3 15 rfl
        have a4 := hin 4 16 rfl
        have a5 := hin 5 17 rfl
        have a6 := hin 6 18 rfl
        have a7 := hin 7 19 rfl
        have a8 := hin 8 20 rfl
        have a9 := hin 9 21 rfl
        have a10 := hin 10 22 rfl
        have a11 := hin 11 23 rfl
        have a12 := hin 12 24 rfl
        have a13 := hin 13 25 rfl
        have a14 := hin 14 26 rfl
        simp only [putL, Act.put, List.setIfInBounds_toArray, List.set_cons_zero, List.set_cons_succ, Nat.zero_add, Nat.reduceAdd, Nat.reduceBEq, Bool.or_false, Bool.or_true, Bool.false_or, Bool.true_or, Bool.false_eq_true, if_false, if_true, reduceIte, Nat.reduceEqDiff, beq_self_eq_true, Bool.or_self] at a0 a1 a2 a3 a4 a5 a6 a7 a8 a9 a10 a11 a12 a13 a14 ⊢
        rw [if_pos (by decide)] at hps
        simp only [a0, a1, a2, a3, a4, a5, a6, a7, a8, a9, a10, a11, a12, a13, a14]
        have hq' : q < (mk n n (negTo negE k i f)).length := by rw [mk_len, ← HN.out]; exact hq5
        have PUT := hideP ((HR.out.later hu).putAt cellsN_len hq' y)
        rw [HP.out, mk_put hlt hkn, ← HP.out, ← hps] at PUT
        have bt' : But (fun b => b = g) W u := by rw [hps]; exact but_setCells (S := fun b => b = g) (b := g) rfl _ _ _ _ (bt.trans (But.of_bl hu))
        clear hps hu
        go_wp2
        go_roundw
        case rel => exact ⟨i + 1, by simp, by omega, by omega, by rw [HS.out]; exact PUT.out, bt'⟩
        case measure => simp [intOf]; omega
    · obtain rfl : i = n := by omega
      obtain ⟨c0, c1, c2, f0, f1, f2, lt⟩ := id mb
      go_wp2
      go_end0
      exact ⟨⟨_, rfl⟩, HR.out, (But.of_bl b0).trans bt⟩
end Go.Proofs.YtlbmkjicbkfmjaaGreat
