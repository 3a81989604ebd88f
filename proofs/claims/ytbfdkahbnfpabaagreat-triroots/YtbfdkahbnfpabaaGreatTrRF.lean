/- Contracts of tri's Root, of fractions (layer 7). Written by genTr.py. -/
import Derived.Test.YtbfdkahbnfpabaaGreatTrBF
import Derived.Test.YtbfdkahbnfpabaaGreatFr6
namespace Go.Proofs.YtbfdkahbnfpabaaGreat
open Go.RowKit
set_option linter.unusedSimpArgs false
set_option linter.unusedVariables false

/-- What Root tells of a place, of what it is so far. -/
def rootVF (P g : Nat → Nat → Fr) (i k : Nat) : Fr := if i = k then rootR (subR (P i k) (dotF (rowM k g i) (rowM k g k))) else divR (subR (P i k) (dotF (rowM k g i) (rowM k g k))) (g k k)
set_option maxRecDepth 100000 in
set_option maxHeartbeats 2000000 in
theorem tRoot1F (n : Nat) (p0 : Option Addr) (N cap0 : Nat) (P : Nat → Nat → Fr) (p : Option Addr) (cap : Nat) (g : Nat → Nat → Fr) (w : World) (hP : Mx 3 cellsF w n n p0 N cap0 P) (pb : Nat) (hm : MBox w pb n n p0 N cap0) (hg : Mx 3 cellsF w n n p N cap g) (i k : Nat) (hi : i < n) (hki : k ≤ i) :
    Calls Tryz.prog 31 #[mV n n p N cap, .int .i64 i, .int .i64 k, .pointer (some ⟨pb, 0, none⟩)] w fun e w' => e = .returned (frV (rootVF P g i k)) ∧ Bl w w' := by
  have fm : Tryz.prog.follows .mixedOrders = true := by kernel_rfl
  have egA := enters_of Tryz.func32 (by kernel_rfl) rfl
  have egR := enters_of Tryz.func34 (by kernel_rfl) rfl
  have egD := enters_of Tryz.func33 (by kernel_rfl) rfl
  have egS := enters_of Tryz.func124 (by kernel_rfl) rfl
  have egV := enters_of Tryz.func119 (by kernel_rfl) rfl
  have hk : k < n := by omega
  have hkn : k ≤ n := by omega
  have hn16 := hg.1.r2
  have XS := hideP (rsub_any (P i k) (dotF (rowM k g i) (rowM k g k)))
  have XV := hideP (show rootVF P g i k = if i = k then rootR (subR (P i k) (dotF (rowM k g i) (rowM k g k))) else divR (subR (P i k) (dotF (rowM k g i) (rowM k g k))) (g k k) from rfl)
  generalize subR (P i k) (dotF (rowM k g i) (rowM k g k)) = x at *
  obtain ⟨W, hW⟩ : ∃ W, W = (w.alloc (.cells #[.int .i64 n, .int .i64 n, .slice p N cap] 28)).alloc (.cells #[.int .i64 0, .int .i64 0, .bool false] 32) := ⟨_, rfl⟩
  have b0 : Bl w W := by rw [hW]; exact ((Bl.refl _).alloc _).alloc _
  have ms : MBox W w.heap.size n n p N cap := by rw [hW]; exact (MBox.new w _ _ _ _ _ _).later ((Bl.refl _).alloc _)
  have x0 : FBox W (w.heap.size + 1) zeroR := by rw [hW]; have := FBox.new (w.alloc (.cells #[.int .i64 n, .int .i64 n, .slice p N cap] 28)) zeroR 32; rw [World.size_alloc] at this; exact this
  have hs : W.heap.size = w.heap.size + 1 + 1 := by rw [hW]; simp
  have HW := hideP hW
  clear hW
  go_enter Tryz.func31, Tryz.ntmps31
  go_wp2_with fail
  rw [← HW.out]
  refine (wpIn_wide (n := 8)).1 (region_q fm [some 9, some 10, some 11, some 12, some 13, some 14, some 15, some 16, some 17, some 18, some 19, some 20, some 21, some 22, some 23, some 24, some 25, some 8, none] (fun _ => false) 18 (by kernel_rfl) (by rfl)
    (fun j v u => match j with | 0 => v = mV n n p0 N cap0 | 1 => v = .int .i64 i | 2 => v = .int .i64 k | 3 => v = frV (P i k) | 4 => v = .iface 32 (frV (P i k)) | 5 => v = mV n n p N cap | 6 => v = .int .i64 i | 7 => ∃ q c, v = .slice q n c ∧ Rw 3 cellsF u (.slice q n c) (rowM n g i) ∧ n ≤ c | 8 => v = .int .i64 k | 9 => ∃ q c, v = .slice q k c ∧ Rw 3 cellsF u (.slice q k c) (rowM k g i) | 10 => v = mV n n p N cap | 11 => v = .int .i64 k | 12 => ∃ q c, v = .slice q n c ∧ Rw 3 cellsF u (.slice q n c) (rowM n g k) ∧ n ≤ c | 13 => v = .int .i64 k | 14 => ∃ q c, v = .slice q k c ∧ Rw 3 cellsF u (.slice q k c) (rowM k g k) | 15 => v = frV (dotF (rowM k g i) (rowM k g k)) | 16 => v = frV x | 17 => ∃ b, v = .pointer (some ⟨b, 0, none⟩) ∧ W.heap.size ≤ b ∧ FBox u b zeroR | _ => False)
    (by
            intro j v u u' hb h
            split at h <;> first | exact h | (obtain ⟨q, c, e, h1, h2⟩ := h; exact ⟨q, c, e, h1.later hb, h2⟩) | (obtain ⟨q, c, e, h1⟩ := h; exact ⟨q, c, e, h1.later hb⟩) | (obtain ⟨b, e, h1, h2⟩ := h; exact ⟨b, e, h1, h2.later hb⟩)) (fun vs u0 u => ∃ b, vs 17 = .pointer (some ⟨b, 0, none⟩) ∧ FBox u b x ∧ FBox u (w.heap.size + 1) zeroR ∧ Bl w u ∧ Bl W u) ?step ?still ?store ?fin)
  case step =>
    intro j o t act u ho hdt hpu hsz hu hfr hin
    have hj : j < 19 := (Array.getElem?_eq_some_iff.1 ho).1
    obtain ⟨c0, c1, c2, _, _, _, _⟩ := hm.later (b0.trans hu)
    obtain ⟨d0, d1, d2, _, _, _, _⟩ := ms.later hu
    rcases (by omega : j = 0 ∨ j = 1 ∨ j = 2 ∨ j = 3 ∨ j = 4 ∨ j = 5 ∨ j = 6 ∨ j = 7 ∨ j = 8 ∨ j = 9 ∨ j = 10 ∨ j = 11 ∨ j = 12 ∨ j = 13 ∨ j = 14 ∨ j = 15 ∨ j = 16 ∨ j = 17 ∨ j = 18) with rfl | rfl | rfl | rfl | rfl | rfl | rfl | rfl | rfl | rfl | rfl | rfl | rfl | rfl | rfl | rfl | rfl | rfl | rfl
    · simp only [List.getElem?_toArray, List.getElem?_cons_zero, List.getElem?_cons_succ, Option.some.injEq] at ho
      subst ho
      obtain rfl := Option.some.inj hdt
      have i3 : act.eval (.tmp (3 : Nat)) = .pointer (some ⟨pb, 0, none⟩) := hfr 3 (by decide)
      exact plain_wp (by intro c h; cases h) (fun _ _ => trivial) (by simp only [execOp, i3, evalC, evalF, evalG]; simp [go_sem, c0, c1, c2, d0, d1, d2]) ⟨_, rfl, rfl, Bl.refl _⟩
    · simp only [List.getElem?_toArray, List.getElem?_cons_zero, List.getElem?_cons_succ, Option.some.injEq] at ho
      subst ho
      obtain rfl := Option.some.inj hdt
      have i1 : act.eval (.tmp (1 : Nat)) = .int .i64 i := hfr 1 (by decide)
      exact plain_wp (by intro c h; cases h) (fun _ _ => trivial) (by simp only [execOp, i1, evalC, evalF, evalG]; simp [go_sem]) ⟨_, rfl, rfl, Bl.refl _⟩
    · simp only [List.getElem?_toArray, List.getElem?_cons_zero, List.getElem?_cons_succ, Option.some.injEq] at ho
      subst ho
      obtain rfl := Option.some.inj hdt
      have i2 : act.eval (.tmp (2 : Nat)) = .int .i64 k := hfr 2 (by decide)
      exact plain_wp (by intro c h; cases h) (fun _ _ => trivial) (by simp only [execOp, i2, evalC, evalF, evalG]; simp [go_sem]) ⟨_, rfl, rfl, Bl.refl _⟩
    · simp only [List.getElem?_toArray, List.getElem?_cons_zero, List.getElem?_cons_succ, Option.some.injEq] at ho
      subst ho
      obtain rfl := Option.some.inj hdt
      have i9 : (act.eval (.tmp (9 : Nat))) = mV n n p0 N cap0 := hin ⟨0, .data⟩ (by simp) rfl 9 rfl
      have i10 : (act.eval (.tmp (10 : Nat))) = .int .i64 i := hin ⟨1, .data⟩ (by simp) rfl 10 rfl
      have i11 : (act.eval (.tmp (11 : Nat))) = .int .i64 k := hin ⟨2, .data⟩ (by simp) rfl 11 rfl
      refine enter_wp 32 #[mV n n p0 N cap0, .int .i64 i, .int .i64 k] (by intro c h; cases h) (fun _ _ => trivial) (by simp only [execOp, evalC, evalF, evalG, resolve, i9, i10, i11, List.map_toArray, List.map_cons, List.map_nil]; simp [invoke, egA, Result.andThen, go_sem]) (by intro h; cases h) (callsIn_wide.2 (mAtF n n p0 N cap0 P u (hP.later (b0.trans hu)) i k hi hk)) ?_
      rintro e w' ⟨rfl, hb⟩
      exact ⟨_, rfl, _, rfl, rfl, hb⟩
    · simp only [List.getElem?_toArray, List.getElem?_cons_zero, List.getElem?_cons_succ, Option.some.injEq] at ho
      subst ho
      obtain rfl := Option.some.inj hdt
      have i12 : (act.eval (.tmp (12 : Nat))) = frV (P i k) := hin ⟨3, .data⟩ (by simp) rfl 12 rfl
      exact plain_wp (by intro c h; cases h) (fun _ _ => trivial) (by simp only [execOp, i12, evalC, evalF, evalG]; simp [go_sem, c0, c1, c2, d0, d1, d2]) ⟨_, rfl, rfl, Bl.refl _⟩
    · simp only [List.getElem?_toArray, List.getElem?_cons_zero, List.getElem?_cons_succ, Option.some.injEq] at ho
      subst ho
      obtain rfl := Option.some.inj hdt
      have i4 : act.eval (.tmp (4 : Nat)) = .pointer (some ⟨w.heap.size, 0, none⟩) := hfr 4 (by decide)
      exact plain_wp (by intro c h; cases h) (fun _ _ => trivial) (by simp only [execOp, i4, evalC, evalF, evalG]; simp [go_sem, c0, c1, c2, d0, d1, d2]) ⟨_, rfl, rfl, Bl.refl _⟩
    · simp only [List.getElem?_toArray, List.getElem?_cons_zero, List.getElem?_cons_succ, Option.some.injEq] at ho
      subst ho
      obtain rfl := Option.some.inj hdt
      have i1 : act.eval (.tmp (1 : Nat)) = .int .i64 i := hfr 1 (by decide)
      exact plain_wp (by intro c h; cases h) (fun _ _ => trivial) (by simp only [execOp, i1, evalC, evalF, evalG]; simp [go_sem]) ⟨_, rfl, rfl, Bl.refl _⟩
    · simp only [List.getElem?_toArray, List.getElem?_cons_zero, List.getElem?_cons_succ, Option.some.injEq] at ho
      subst ho
      obtain rfl := Option.some.inj hdt
      have i14 : (act.eval (.tmp (14 : Nat))) = mV n n p N cap := hin ⟨5, .data⟩ (by simp) rfl 14 rfl
      have i15 : (act.eval (.tmp (15 : Nat))) = .int .i64 i := hin ⟨6, .data⟩ (by simp) rfl 15 rfl
      refine enter_wp 34 #[mV n n p N cap, .int .i64 i] (by intro c h; cases h) (fun _ _ => trivial) (by simp only [execOp, evalC, evalF, evalG, resolve, i14, i15, List.map_toArray, List.map_cons, List.map_nil]; simp [invoke, egR, Result.andThen, go_sem]) (by intro h; cases h) (callsIn_wide.2 (mRowF n n p N cap g u (hg.later (b0.trans hu)) i hi)) ?_
      rintro e w' ⟨q, c, rfl, ⟨hR, _, hc⟩, hb⟩
      exact ⟨_, rfl, _, rfl, ⟨q, c, rfl, hR, hc⟩, hb⟩
    · simp only [List.getElem?_toArray, List.getElem?_cons_zero, List.getElem?_cons_succ, Option.some.injEq] at ho
      subst ho
      obtain rfl := Option.some.inj hdt
      have i2 : act.eval (.tmp (2 : Nat)) = .int .i64 k := hfr 2 (by decide)
      exact plain_wp (by intro c h; cases h) (fun _ _ => trivial) (by simp only [execOp, i2, evalC, evalF, evalG]; simp [go_sem]) ⟨_, rfl, rfl, Bl.refl _⟩
    · simp only [List.getElem?_toArray, List.getElem?_cons_zero, List.getElem?_cons_succ, Option.some.injEq] at ho
      subst ho
      obtain rfl := Option.some.inj hdt
      have i16 : ∃ q c, (act.eval (.tmp (16 : Nat))) = .slice q n c ∧ Rw 3 cellsF u (.slice q n c) (rowM n g i) ∧ n ≤ c := hin ⟨7, .data⟩ (by simp) rfl 16 rfl
      have i17 : (act.eval (.tmp (17 : Nat))) = .int .i64 k := hin ⟨8, .data⟩ (by simp) rfl 17 rfl
      obtain ⟨q, c, e1, hr, hc⟩ := i16
      have hck : ¬ c < k := by omega
      exact plain_wp (by intro c h; cases h) (fun _ _ => trivial) (by simp only [execOp, e1, i17, Option.map_some, Option.map_none]; simp [go_sem, hck]) ⟨_, rfl, ⟨q, c, rfl, rw_row7 hr hkn⟩, Bl.refl _⟩
    · simp only [List.getElem?_toArray, List.getElem?_cons_zero, List.getElem?_cons_succ, Option.some.injEq] at ho
      subst ho
      obtain rfl := Option.some.inj hdt
      have i4 : act.eval (.tmp (4 : Nat)) = .pointer (some ⟨w.heap.size, 0, none⟩) := hfr 4 (by decide)
      exact plain_wp (by intro c h; cases h) (fun _ _ => trivial) (by simp only [execOp, i4, evalC, evalF, evalG]; simp [go_sem, c0, c1, c2, d0, d1, d2]) ⟨_, rfl, rfl, Bl.refl _⟩
    · simp only [List.getElem?_toArray, List.getElem?_cons_zero, List.getElem?_cons_succ, Option.some.injEq] at ho
      subst ho
      obtain rfl := Option.some.inj hdt
      have i2 : act.eval (.tmp (2 : Nat)) = .int .i64 k := hfr 2 (by decide)
      exact plain_wp (by intro c h; cases h) (fun _ _ => trivial) (by simp only [execOp, i2, evalC, evalF, evalG]; simp [go_sem]) ⟨_, rfl, rfl, Bl.refl _⟩
    · simp only [List.getElem?_toArray, List.getElem?_cons_zero, List.getElem?_cons_succ, Option.some.injEq] at ho
      subst ho
      obtain rfl := Option.some.inj hdt
      have i19 : (act.eval (.tmp (19 : Nat))) = mV n n p N cap := hin ⟨10, .data⟩ (by simp) rfl 19 rfl
      have i20 : (act.eval (.tmp (20 : Nat))) = .int .i64 k := hin ⟨11, .data⟩ (by simp) rfl 20 rfl
      refine enter_wp 34 #[mV n n p N cap, .int .i64 k] (by intro c h; cases h) (fun _ _ => trivial) (by simp only [execOp, evalC, evalF, evalG, resolve, i19, i20, List.map_toArray, List.map_cons, List.map_nil]; simp [invoke, egR, Result.andThen, go_sem]) (by intro h; cases h) (callsIn_wide.2 (mRowF n n p N cap g u (hg.later (b0.trans hu)) k hk)) ?_
      rintro e w' ⟨q, c, rfl, ⟨hR, _, hc⟩, hb⟩
      exact ⟨_, rfl, _, rfl, ⟨q, c, rfl, hR, hc⟩, hb⟩
    · simp only [List.getElem?_toArray, List.getElem?_cons_zero, List.getElem?_cons_succ, Option.some.injEq] at ho
      subst ho
      obtain rfl := Option.some.inj hdt
      have i2 : act.eval (.tmp (2 : Nat)) = .int .i64 k := hfr 2 (by decide)
      exact plain_wp (by intro c h; cases h) (fun _ _ => trivial) (by simp only [execOp, i2, evalC, evalF, evalG]; simp [go_sem]) ⟨_, rfl, rfl, Bl.refl _⟩
    · simp only [List.getElem?_toArray, List.getElem?_cons_zero, List.getElem?_cons_succ, Option.some.injEq] at ho
      subst ho
      obtain rfl := Option.some.inj hdt
      have i21 : ∃ q c, (act.eval (.tmp (21 : Nat))) = .slice q n c ∧ Rw 3 cellsF u (.slice q n c) (rowM n g k) ∧ n ≤ c := hin ⟨12, .data⟩ (by simp) rfl 21 rfl
      have i22 : (act.eval (.tmp (22 : Nat))) = .int .i64 k := hin ⟨13, .data⟩ (by simp) rfl 22 rfl
      obtain ⟨q, c, e1, hr, hc⟩ := i21
      have hck : ¬ c < k := by omega
      exact plain_wp (by intro c h; cases h) (fun _ _ => trivial) (by simp only [execOp, e1, i22, Option.map_some, Option.map_none]; simp [go_sem, hck]) ⟨_, rfl, ⟨q, c, rfl, rw_row7 hr hkn⟩, Bl.refl _⟩
    · simp only [List.getElem?_toArray, List.getElem?_cons_zero, List.getElem?_cons_succ, Option.some.injEq] at ho
      subst ho
      obtain rfl := Option.some.inj hdt
      have i18 : ∃ q c, (act.eval (.tmp (18 : Nat))) = .slice q k c ∧ Rw 3 cellsF u (.slice q k c) (rowM k g i) := hin ⟨9, .data⟩ (by simp) rfl 18 rfl
      have i23 : ∃ q c, (act.eval (.tmp (23 : Nat))) = .slice q k c ∧ Rw 3 cellsF u (.slice q k c) (rowM k g k) := hin ⟨14, .data⟩ (by simp) rfl 23 rfl
      obtain ⟨q1, c1', e1, hr1⟩ := i18
      obtain ⟨q2, c2', e2, hr2⟩ := i23
      refine enter_wp 33 #[.slice q1 k c1', .slice q2 k c2'] (by intro c h; cases h) (fun _ _ => trivial) (by simp only [execOp, evalC, evalF, evalG, resolve, e1, e2, List.map_toArray, List.map_cons, List.map_nil]; simp [invoke, egD, Result.andThen, go_sem]) (by intro h; cases h) (callsIn_wide.2 (vDotF _ _ (rowM k g i) (rowM k g k) u hr1.q hr2.q (by rw [rowM_len]; omega) (by rw [rowM_len]; omega))) ?_
      rintro e w' ⟨rfl, hb⟩
      exact ⟨_, rfl, _, rfl, rfl, hb⟩
    · simp only [List.getElem?_toArray, List.getElem?_cons_zero, List.getElem?_cons_succ, Option.some.injEq] at ho
      subst ho
      obtain rfl := Option.some.inj hdt
      have i13 : (act.eval (.tmp (13 : Nat))) = .iface 32 (frV (P i k)) := hin ⟨4, .data⟩ (by simp) rfl 13 rfl
      have i24 : (act.eval (.tmp (24 : Nat))) = frV (dotF (rowM k g i) (rowM k g k)) := hin ⟨15, .data⟩ (by simp) rfl 24 rfl
      have iv := Tryz.mSubF
      refine enter_wp 124 #[frV (P i k), frV (dotF (rowM k g i) (rowM k g k))] (by intro c h; cases h) (fun _ _ => trivial) (by simp only [execOp, evalC, evalF, evalG, resolve, i13, i24, List.map_toArray, List.map_cons, List.map_nil]; simp [invoke, iv, egS, Result.andThen, go_sem]) (by intro h; cases h) (callsIn_wide.2 (XS.out u)) ?_
      rintro e w' ⟨rfl, hb⟩
      exact ⟨_, rfl, _, rfl, rfl, hb⟩
    · simp only [List.getElem?_toArray, List.getElem?_cons_zero, List.getElem?_cons_succ, Option.some.injEq] at ho
      subst ho
      obtain rfl := Option.some.inj hdt
      exact plain_wp (by intro c h; cases h) (fun _ _ => trivial) (w' := u.alloc (.cells #[.int .i64 0, .int .i64 0, .bool false] 32)) (v := .pointer (some ⟨u.heap.size, 0, none⟩)) (by simp only [execOp]; simp [go_sem]) ⟨_, rfl, ⟨u.heap.size, rfl, hu.size, FBox.new u zeroR _⟩, (Bl.refl _).alloc _⟩
    · simp only [List.getElem?_toArray, List.getElem?_cons_zero, List.getElem?_cons_succ, Option.some.injEq] at ho
      subst ho
      cases hdt
  case still =>
    intro j o t act u0 u ho hdt hpu
    cases hpu
  case store =>
    intro o act u vs ho hsz hu hfr hin
    simp only [List.getElem?_toArray, List.getElem?_cons_zero, List.getElem?_cons_succ, Option.some.injEq] at ho
    subst ho
    obtain ⟨i8, k8⟩ : act.eval (.tmp (8 : Nat)) = vs 17 ∧ (∃ b, (vs 17) = .pointer (some ⟨b, 0, none⟩) ∧ W.heap.size ≤ b ∧ FBox u b zeroR) := hin 17 8 rfl rfl
    obtain ⟨i25, k25⟩ : act.eval (.tmp (25 : Nat)) = vs 16 ∧ ((vs 16) = frV x) := hin 16 25 rfl rfl
    obtain ⟨b, e1, hb, bx⟩ := k8
    rw [e1] at i8
    rw [k25] at i25
    obtain ⟨c0, c1, c2, f0, f1, f2, ltb⟩ := id bx
    exact skip_wp (by intro c h; cases h) (fun _ _ => trivial) (by simp only [execOp, i8, i25]; simp [go_sem, c0, f0, c1, f1, c2, f2]) ⟨rfl, b, e1, bx.fill x, (x0.later hu).oth (by omega) _ _ _, Bl.set3 (b0.trans hu) (by have := b0.size; omega) _ _ _, Bl.set3 hu hb _ _ _⟩
  case fin =>
    intro vs vb u0 u hu hin hps
    have a0 := hin 0 9 rfl
    have a1 := hin 1 10 rfl
    have a2 := hin 2 11 rfl
    have a3 := hin 3 12 rfl
    have a4 := hin 4 13 rfl
    have a5 := hin 5 14 rfl
    have a6 := hin 6 15 rfl
    have a7 := hin 7 16 rfl
    have a8 := hin 8 17 rfl
    have a9 := hin 9 18 rfl
    have a10 := hin 10 19 rfl
    have a11 := hin 11 20 rfl
    have a12 := hin 12 21 rfl
    have a13 := hin 13 22 rfl
    have a14 := hin 14 23 rfl
    have a15 := hin 15 24 rfl
    have a16 := hin 16 25 rfl
    have a17 := hin 17 8 rfl
    simp only [putL, Act.put, List.setIfInBounds_toArray, List.set_cons_zero, List.set_cons_succ, Nat.zero_add, Nat.reduceAdd, Nat.reduceBEq, Bool.or_false, Bool.or_true, Bool.false_or, Bool.true_or, Bool.false_eq_true, if_false, if_true, reduceIte, Nat.reduceEqDiff, beq_self_eq_true, Bool.or_self] at a0 a1 a2 a3 a4 a5 a6 a7 a8 a9 a10 a11 a12 a13 a14 a15 a16 a17 ⊢
    rw [if_pos (by decide)] at hps
    simp only [a0, a1, a2, a3, a4, a5, a6, a8, a10, a11, a13, a15, a16]
    obtain ⟨b, e17, bx, xz, hbw, hbW⟩ := hps
    simp only [e17]
    clear a7 a9 a12 a14 a17
    have kk := k
    clear kk
    obtain ⟨c0, c1, c2, f0, f1, f2, ltb⟩ := id bx
    by_cases hik : i = k
    · have e0 : ((i : Int) == (k : Int)) = true := by simp [hik]
      have iv := Tryz.mRootF
      go_wp2_with fail
      refine (rroot_any x _).mono ?_
      rintro e w3 ⟨rfl, h3⟩
      clear c0 c1 c2 f0 f1 f2 iv
      obtain ⟨c0, c1, c2, f0, f1, f2, lt3⟩ := xz.later h3
      go_wp2
      simp [bodyPost, results, Tryz.results31, go_sem, c0, c1, c2]
      exact ⟨by rw [XV.out, if_pos hik]; simp, Bl.set3 (hbw.trans h3) (Nat.le_succ _) _ _ _⟩
    · have e0 : ((i : Int) == (k : Int)) = false := by simp; omega
      clear c0 c1 c2 f0 f1 f2 ltb
      go_wp2_with fail
      refine (wpIn_wide (n := 8)).1 (region_q fm [some 32, some 33, some 34, some 35, some 36, some 37, some 38, none] (fun _ => false) 7 (by kernel_rfl) (by rfl)
        (fun j v u => match j with | 0 => v = frV x | 1 => v = .iface 32 (frV x) | 2 => v = mV n n p N cap | 3 => v = .int .i64 k | 4 => v = .int .i64 k | 5 => v = frV (g k k) | 6 => v = frV (divR x (g k k)) | _ => False)
        (fun j v u u' _ h => h) (fun vs u0 u => FBox u (w.heap.size + 1) (divR x (g k k)) ∧ Bl w u) ?step ?still ?store ?fin)
      case step =>
        intro j o t act u ho hdt hpu hsz hu hfr hin
        have hj : j < 8 := (Array.getElem?_eq_some_iff.1 ho).1
        obtain ⟨c0, c1, c2, f0, f1, f2, ltb⟩ := bx.later hu
        obtain ⟨d0, d1, d2, _, _, _, _⟩ := ms.later (hbW.trans hu)
        rcases (by omega : j = 0 ∨ j = 1 ∨ j = 2 ∨ j = 3 ∨ j = 4 ∨ j = 5 ∨ j = 6 ∨ j = 7) with rfl | rfl | rfl | rfl | rfl | rfl | rfl | rfl
        · simp only [List.getElem?_toArray, List.getElem?_cons_zero, List.getElem?_cons_succ, Option.some.injEq] at ho
          subst ho
          obtain rfl := Option.some.inj hdt
          have i8 : act.eval (.tmp (8 : Nat)) = .pointer (some ⟨b, 0, none⟩) := hfr 8 (by decide)
          exact plain_wp (by intro c h; cases h) (fun _ _ => trivial) (by simp only [execOp, i8, evalC, evalF, evalG]; simp [go_sem, c0, c1, c2, d0, d1, d2]) ⟨_, rfl, rfl, Bl.refl _⟩
        · simp only [List.getElem?_toArray, List.getElem?_cons_zero, List.getElem?_cons_succ, Option.some.injEq] at ho
          subst ho
          obtain rfl := Option.some.inj hdt
          have i32 : (act.eval (.tmp (32 : Nat))) = frV x := hin ⟨0, .data⟩ (by simp) rfl 32 rfl
          exact plain_wp (by intro c h; cases h) (fun _ _ => trivial) (by simp only [execOp, i32, evalC, evalF, evalG]; simp [go_sem, c0, c1, c2, d0, d1, d2]) ⟨_, rfl, rfl, Bl.refl _⟩
        · simp only [List.getElem?_toArray, List.getElem?_cons_zero, List.getElem?_cons_succ, Option.some.injEq] at ho
          subst ho
          obtain rfl := Option.some.inj hdt
          have i4 : act.eval (.tmp (4 : Nat)) = .pointer (some ⟨w.heap.size, 0, none⟩) := hfr 4 (by decide)
          exact plain_wp (by intro c h; cases h) (fun _ _ => trivial) (by simp only [execOp, i4, evalC, evalF, evalG]; simp [go_sem, c0, c1, c2, d0, d1, d2]) ⟨_, rfl, rfl, Bl.refl _⟩
        · simp only [List.getElem?_toArray, List.getElem?_cons_zero, List.getElem?_cons_succ, Option.some.injEq] at ho
          subst ho
          obtain rfl := Option.some.inj hdt
          have i2 : act.eval (.tmp (2 : Nat)) = .int .i64 k := hfr 2 (by decide)
          exact plain_wp (by intro c h; cases h) (fun _ _ => trivial) (by simp only [execOp, i2, evalC, evalF, evalG]; simp [go_sem]) ⟨_, rfl, rfl, Bl.refl _⟩
        · simp only [List.getElem?_toArray, List.getElem?_cons_zero, List.getElem?_cons_succ, Option.some.injEq] at ho
          subst ho
          obtain rfl := Option.some.inj hdt
          have i2 : act.eval (.tmp (2 : Nat)) = .int .i64 k := hfr 2 (by decide)
          exact plain_wp (by intro c h; cases h) (fun _ _ => trivial) (by simp only [execOp, i2, evalC, evalF, evalG]; simp [go_sem]) ⟨_, rfl, rfl, Bl.refl _⟩
        · simp only [List.getElem?_toArray, List.getElem?_cons_zero, List.getElem?_cons_succ, Option.some.injEq] at ho
          subst ho
          obtain rfl := Option.some.inj hdt
          have i34 : (act.eval (.tmp (34 : Nat))) = mV n n p N cap := hin ⟨2, .data⟩ (by simp) rfl 34 rfl
          have i35 : (act.eval (.tmp (35 : Nat))) = .int .i64 k := hin ⟨3, .data⟩ (by simp) rfl 35 rfl
          have i36 : (act.eval (.tmp (36 : Nat))) = .int .i64 k := hin ⟨4, .data⟩ (by simp) rfl 36 rfl
          refine enter_wp 32 #[mV n n p N cap, .int .i64 k, .int .i64 k] (by intro c h; cases h) (fun _ _ => trivial) (by simp only [execOp, evalC, evalF, evalG, resolve, i34, i35, i36, List.map_toArray, List.map_cons, List.map_nil]; simp [invoke, egA, Result.andThen, go_sem]) (by intro h; cases h) (callsIn_wide.2 (mAtF n n p N cap g u (hg.later (hbw.trans hu)) k k hk hk)) ?_
          rintro e w' ⟨rfl, hb⟩
          exact ⟨_, rfl, _, rfl, rfl, hb⟩
        · simp only [List.getElem?_toArray, List.getElem?_cons_zero, List.getElem?_cons_succ, Option.some.injEq] at ho
          subst ho
          obtain rfl := Option.some.inj hdt
          have i33 : (act.eval (.tmp (33 : Nat))) = .iface 32 (frV x) := hin ⟨1, .data⟩ (by simp) rfl 33 rfl
          have i37 : (act.eval (.tmp (37 : Nat))) = frV (g k k) := hin ⟨5, .data⟩ (by simp) rfl 37 rfl
          have iv := Tryz.mDivF
          refine enter_wp 119 #[frV x, frV (g k k)] (by intro c h; cases h) (fun _ _ => trivial) (by simp only [execOp, evalC, evalF, evalG, resolve, i33, i37, List.map_toArray, List.map_cons, List.map_nil]; simp [invoke, iv, egV, Result.andThen, go_sem]) (by intro h; cases h) (callsIn_wide.2 (rdiv_any x (g k k) u)) ?_
          rintro e w' ⟨rfl, hb⟩
          exact ⟨_, rfl, _, rfl, rfl, hb⟩
        · simp only [List.getElem?_toArray, List.getElem?_cons_zero, List.getElem?_cons_succ, Option.some.injEq] at ho
          subst ho
          cases hdt
      case still =>
        intro j o t act u0 u ho hdt hpu
        cases hpu
      case store =>
        intro o act u vs ho hsz hu hfr hin
        simp only [List.getElem?_toArray, List.getElem?_cons_zero, List.getElem?_cons_succ, Option.some.injEq] at ho
        subst ho
        have i7 : act.eval (.tmp (7 : Nat)) = .pointer (some ⟨w.heap.size + 1, 0, none⟩) := hfr 7 (by decide)
        obtain ⟨i38, k38⟩ : act.eval (.tmp (38 : Nat)) = vs 6 ∧ ((vs 6) = frV (divR x (g k k))) := hin 6 38 rfl rfl
        rw [k38] at i38
        obtain ⟨c0, c1, c2, f0, f1, f2, ltb⟩ := xz.later hu
        exact skip_wp (by intro c h; cases h) (fun _ _ => trivial) (by simp only [execOp, i7, i38]; simp [go_sem, c0, f0, c1, f1, c2, f2]) ⟨rfl, (xz.later hu).fill _, Bl.set3 (hbw.trans hu) (Nat.le_succ _) _ _ _⟩
      case fin =>
        intro vs vb u0 u hu hin hps
        have a0 := hin 0 32 rfl
        have a1 := hin 1 33 rfl
        have a2 := hin 2 34 rfl
        have a3 := hin 3 35 rfl
        have a4 := hin 4 36 rfl
        have a5 := hin 5 37 rfl
        have a6 := hin 6 38 rfl
        simp only [putL, Act.put, List.setIfInBounds_toArray, List.set_cons_zero, List.set_cons_succ, Nat.zero_add, Nat.reduceAdd, Nat.reduceBEq, Bool.or_false, Bool.or_true, Bool.false_or, Bool.true_or, Bool.false_eq_true, if_false, if_true, reduceIte, Nat.reduceEqDiff, beq_self_eq_true, Bool.or_self] at a0 a1 a2 a3 a4 a5 a6 ⊢
        rw [if_pos (by decide)] at hps
        simp only [a0, a1, a2, a3, a4, a5, a6]
        obtain ⟨bz, hbz⟩ := hps
        obtain ⟨c0, c1, c2, f0, f1, f2, ltb⟩ := bz
        go_wp2
        simp [bodyPost, results, Tryz.results31, go_sem, c0, c1, c2]
        exact ⟨by rw [XV.out, if_neg hik]; simp, hbz⟩
theorem tRootF (n : Nat) (p : Option Addr) (N cap : Nat) (f : Nat → Nat → Fr) (w : World) (h : Mx 3 cellsF w n n p N cap f) :
    Calls Tryz.prog 10 #[mV n n p N cap] w fun e w' => ∃ p' cap', e = .returned (.tuple #[mV n n p' N cap', .bool true]) ∧ (Mx 3 cellsF w' n n p' N cap' (triT (rootVF f) (wholeF 0) n n) ∧ Fresh w.heap.size (.slice p' N cap')) ∧ Bl w w' := by
  have hsq : sqB n n N = true := by unfold sqB; rw [h.fit]; simp
  obtain ⟨W, hW⟩ : ∃ W, W = (w.alloc (.cells #[.int .i64 n, .int .i64 n, .slice p N cap] 28)).alloc (.cells #[.int .i64 0, .int .i64 0, .slice none 0 0] 28) := ⟨_, rfl⟩
  have b0 : Bl w W := by rw [hW]; exact ((Bl.refl _).alloc _).alloc _
  have m0 : MBox W w.heap.size n n p N cap := by rw [hW]; exact (MBox.new w _ _ _ _ _ _).later ((Bl.refl _).alloc _)
  have x0 : MBox W (w.heap.size + 1) 0 0 none 0 0 := by rw [hW]; have := MBox.new (w.alloc (.cells #[.int .i64 n, .int .i64 n, .slice p N cap] 28)) 0 0 none 0 0 28; rw [World.size_alloc] at this; exact this
  have hs : W.heap.size = w.heap.size + 1 + 1 := by rw [hW]; simp
  have FI := hideP (fun u (hu : Bl W u) => tTriangleF 31 w.heap.size (enters_of Tryz.func31 (by kernel_rfl) rfl) (rootVF f) n N h.1.r1 h.1.r2 h.2.1 u
    (fun g p' cap' i k v hki hi hv hg => tRoot1F n p N cap f p' cap' g v (h.later (b0.trans (hu.trans hv))) _ (m0.later (hu.trans hv)) hg i k hi hki))
  have HD := hideP h
  have HW := hideP hW
  clear hW h
  go_enter Tryz.func10, Tryz.ntmps10
  go_wp2_with fail
  rw [← HW.out]
  refine (tSquareF _ _ _ _ _ _).mono ?_
  rintro e w1 ⟨rfl, h1⟩
  rw [hsq]
  obtain ⟨c0, c1, c2, f0, f1, f2, lt⟩ := m0.later h1
  go_wp2_with fail
  refine (FI.out _ h1).mono ?_
  rintro e w2 ⟨p', cap', rfl, ⟨hR, hF⟩, h2⟩
  have HR := hideP hR
  have HF := hideP (show Fresh (w.heap.size + 1 + 1) (.slice p' N cap') from fun g hg => by have := hF g hg; have := h1.size; omega)
  clear hR hF FI c0 c1 c2 f0 f1 f2
  obtain ⟨c0, c1, c2, f0, f1, f2, lt2⟩ := x0.later (h1.trans h2)
  go_wp2
  simp [bodyPost, results, Tryz.results10, go_sem, c0, c1, c2]
  exact ⟨p', cap', ⟨rfl, rfl⟩, ⟨mx_put7 HR.out HF.out _ _ _, fun g hg => by have := HF.out g hg; omega⟩, Bl.put3 ((b0.trans h1).trans h2) (Nat.le_succ _) _ _ _⟩
theorem tRootF_no (r c : Int) (p : Option Addr) (n cap : Nat) (w : World) (hsq : sqB r c n = false) :
    Calls Tryz.prog 10 #[mV r c p n cap] w fun e w' => e = .returned (.tuple #[mV 0 0 none 0 0, .bool false]) ∧ Bl w w' := by
  obtain ⟨W, hW⟩ : ∃ W, W = (w.alloc (.cells #[.int .i64 r, .int .i64 c, .slice p n cap] 28)).alloc (.cells #[.int .i64 0, .int .i64 0, .slice none 0 0] 28) := ⟨_, rfl⟩
  have b0 : Bl w W := by rw [hW]; exact ((Bl.refl _).alloc _).alloc _
  have x0 : MBox W (w.heap.size + 1) 0 0 none 0 0 := by rw [hW]; have := MBox.new (w.alloc (.cells #[.int .i64 r, .int .i64 c, .slice p n cap] 28)) 0 0 none 0 0 28; rw [World.size_alloc] at this; exact this
  have HW := hideP hW
  clear hW
  go_enter Tryz.func10, Tryz.ntmps10
  go_wp2_with fail
  rw [← HW.out]
  refine (tSquareF _ _ _ _ _ _).mono ?_
  rintro e w1 ⟨rfl, h1⟩
  rw [hsq]
  obtain ⟨c0, c1, c2, f0, f1, f2, lt2⟩ := x0.later h1
  go_wp2
  simp [bodyPost, results, Tryz.results10, go_sem, c0, c1, c2]
  exact Bl.put3 (b0.trans h1) (Nat.le_succ _) _ _ _
end Go.Proofs.YtbfdkahbnfpabaaGreat
