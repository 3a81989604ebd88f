/- Contracts of joseph's shares, outer, rest, of fractions (layer 9). Written by genJo.py. -/
import Derived.Test.YtljmggemdkfbiaaGreatJoBF
import Derived.Test.YtljmggemdkfbiaaGreatMaYF
import Derived.Test.YtljmggemdkfbiaaGreatTrBF
namespace Go.Proofs.YtljmggemdkfbiaaGreat
open Go.RowKit
set_option linter.unusedSimpArgs false
set_option linter.unusedVariables false

theorem fresh_ownF {w : World} {B b n : Nat} {e : TypeId} {s : Nat} {v : Value} {l : List Value} (h : w.ownsRow B e s v n l) (hb : b ≤ B) : Fresh b v := fun g hg => Nat.le_trans hb (h.lt g hg).1
set_option maxHeartbeats 1000000 in
theorem jShares0F (v : Value) (xs : List Fr) (by_ : Fr) (w : World) (h : Rw 3 cellsF w v xs) (hl : xs.length ≤ 1000000) :
    Calls Tryz.prog 48 #[v, frV by_] w fun e w' => ∃ u, e = .returned u ∧ Rw 3 cellsF w' u (xs.map fun x => divR x by_) ∧ Fresh w.heap.size u ∧ Bl w w' := by
  have iv := Tryz.mDivF
  obtain ⟨i0, hi, hz0, hz1, hz2⟩ := info_parts Tryz.info_F
  have x0 := FBox.new w by_ 34
  rcases h with ⟨rfl, rfl⟩ | ⟨b, o, cap, rfl, hc, hb, hx⟩
  · go_enter Tryz.func48, Tryz.ntmps48
    go_wp2_with (at_make; refine wpList_make_own _ rfl _ _ 28 rfl w.heap.size 34 i0 (.agg #[.int .i64 0, .int .i64 0, .bool false]) 3 Tryz.underlying28 hi hz0 hz1 .i64 .i64 _ 0 rfl rfl (by simp) (by rw [hz2]; omega) (by unfold maxLen; omega) (by simp) ?_; intro w0 hown0 hgrow0)
    rw [World.size_alloc] at hown0
    have hB0 : Bl w w0 := Below.grown (Below.alloc (Bl.refl w) (Nat.le_refl _) _) hgrow0 (by simp) (fun k e => by cases e)
    go_loopw [5, 13] (fun v i wr => i = .int .i64 0 ∧ wr.ownsRow w.heap.size 34 3 v 0 [] ∧ Bl w wr) (fun _ _ _ => 0)
    case atStart => exact ⟨rfl, hown0, hB0⟩
    case round =>
      obtain ⟨rfl, hown, hB⟩ := hrel
      go_wp2
      go_ret
      exact ⟨_, rfl, Rw.of_own cellsF_len (xs := []) hown, fresh_ownF hown (Nat.le_refl _), hB⟩
  · have HX := hideP hx
    clear hx
    go_enter Tryz.func48, Tryz.ntmps48
    go_wp2_with (at_make; refine wpList_make_own _ rfl _ _ 28 rfl (w.heap.size + 1) 34 i0 (.agg #[.int .i64 0, .int .i64 0, .bool false]) 3 Tryz.underlying28 hi hz0 hz1 .i64 .i64 _ xs.length rfl rfl (by simp) (by rw [hz2]; omega) (by unfold maxLen; omega) (by simp) ?_; intro w0 hown0 hgrow0)
    rw [World.size_alloc] at hown0
    have hB1 : Bl (w.alloc (.cells #[.int .i64 by_.n, .int .i64 by_.d, .bool by_.bad] 34)) w0 := Below.grown (Bl.refl _) hgrow0 (Nat.le_refl _) (fun k e => by cases e)
    have hB0 : Bl w w0 := ((Bl.refl w).alloc _).trans hB1
    go_loopw [5, 13] (fun v i wr => ∃ k : Nat, i = .int .i64 k ∧ k ≤ xs.length ∧ FBox wr w.heap.size by_ ∧ wr.ownsRow (w.heap.size + 1) 34 3 v ((xs.take k).map fun x => divR x by_).length (((xs.take k).map fun x => divR x by_).flatMap cellsF) ∧ Bl w wr) (fun _ i _ => xs.length - (intOf i).toNat)
    case atStart => exact ⟨0, rfl, Nat.zero_le _, x0.later hB1, hown0, hB0⟩
    case round =>
      obtain ⟨k, rfl, hk, bx, hown, hB⟩ := hrel
      by_cases hlt : k < xs.length
      · obtain ⟨x, hx⟩ : ∃ x, xs[k]? = some x := ⟨_, List.getElem?_eq_getElem hlt⟩
        have CX : ∀ j u, (cellsF x)[j]? = some u → wr.cell? ⟨b, o + k * 3 + j, none⟩ = some u := fun j u hu => (bl_cell hB _ _ hb).trans (HX.out k x hx j u hu)
        have y0 : wr.cell? ⟨b, o + k * 3, none⟩ = some (.int .i64 x.n) := CX 0 _ rfl
        have y1 : wr.cell? ⟨b, o + k * 3 + 1, none⟩ = some (.int .i64 x.d) := CX 1 _ rfl
        have y2 : wr.cell? ⟨b, o + k * 3 + 2, none⟩ = some (.bool x.bad) := CX 2 _ rfl
        clear CX
        obtain ⟨c0, c1, c2, f0, f1, f2, lt⟩ := id bx
        have HT := hideP (show (xs.take (k + 1)).map (fun x => divR x by_) = (xs.take k).map (fun x => divR x by_) ++ [divR x by_] by rw [List.take_add_one, hx]; simp)
        have HK := hideP (show ((xs.take k).map fun x => divR x by_).length = k by simp; omega)
        generalize hys : (xs.take k).map (fun x => divR x by_) = ys at *
        clear hys
        go_wp2_with fail
        refine (rdiv_any _ _ _).mono ?_
        rintro e w2 ⟨rfl, h2⟩
        have bl2 : Bl wr w2 := ((Bl.refl _).alloc _).trans h2
        generalize divR x by_ = r at *
        clear y0 y1 y2 c0 c1 c2
        replace hown := own_blF hown bl2
        replace hB := hB.trans bl2
        have bx2 := bx.later bl2
        have hkk := HK.out
        go_wp2_with (at_builtin; refine wpList_append_own _ rfl _ _ 28 rfl (w.heap.size + 1) 34 i0 (.agg #[.int .i64 0, .int .i64 0, .bool false]) 3 24 Tryz.underlying28 hi hz0 hz1 hz2 rfl (by decide) _ _ _ rfl (hown.alloc _) ⟨_, 0, none⟩ 1 1 (cellsF r) rfl rfl (newF_cells _ _ _) (oneF_cells _) (by unfold maxLen; omega) (by omega) (by have := bx2.lt; simp; omega) ?_; intro v' w1 hown' hgrow _)
        have R := ownF_step' (n₀ := w.heap.size + 1) hB (by omega) hown hown' hgrow
        have bx3 := bx2.grown ((Bl.refl _).alloc _) hown hgrow (by omega)
        clear hown hown' hgrow
        go_wp2
        go_roundw
        case rel => exact ⟨k + 1, by simp, hlt, bx3, by rw [HT.out]; exact R.2, R.1⟩
        case measure => simp [intOf]; omega
      · have hk' : k = xs.length := by omega
        subst hk'
        rw [List.take_length] at hown
        have R := hideP (Rw.of_own cellsF_len hown)
        have FR := hideP (fresh_ownF hown (Nat.le_succ _))
        clear hown
        go_wp2
        go_ret
        exact ⟨_, rfl, R.out, FR.out, hB⟩


theorem jSharesF (n : Nat) (p : Option Addr) (cap : Nat) (u : Nat → Fr) (a : Fr) (w : World) (h : Rw 3 cellsF w (.slice p n cap) (linJ n u)) (hl : n ≤ 1000000) :
    Calls Tryz.prog 48 #[.slice p n cap, frV a] w fun e w' => ∃ q c, e = .returned (.slice q n c) ∧ (Rw 3 cellsF w' (.slice q n c) (linJ n (fun i => divR (u i) a)) ∧ Fresh w.heap.size (.slice q n c)) ∧ Bl w w' :=
  (jShares0F _ _ a w h (by rw [linJ_len]; exact hl)).mono fun e w' ⟨v, he, hr, hf, hb⟩ => by
    rw [linJ_map] at hr
    obtain ⟨q, c, rfl, _, _⟩ := hr.cut
    rw [linJ_len] at hr hf he
    exact ⟨q, c, he, ⟨hr, hf⟩, hb⟩
set_option maxRecDepth 100000 in
set_option maxHeartbeats 2000000 in
theorem jOuterF (n m N : Nat) (pk : Option Addr) (ck : Nat) (k : Nat → Fr) (ph : Option Addr) (ch : Nat) (h : Nat → Fr) (w : World) (hk : Rq 3 cellsF w (.slice pk n ck) (linJ n k)) (hh : Rq 3 cellsF w (.slice ph m ch) (linJ m h)) (hd : Dim n m) (hN : N = n * m) :
    Calls Tryz.prog 52 #[.slice pk n ck, .slice ph m ch] w fun e w' => ∃ q c, e = .returned (mV n m q N c) ∧ (Mx 3 cellsF w' n m q N c (outerJ kdF k h) ∧ Fresh w.heap.size (.slice q N c)) ∧ Bl w w' := by
  have d1 : Dim n 1 := ⟨hd.r1, hd.r2, by decide, by decide⟩
  have d2 : Dim 1 m := ⟨by decide, by decide, hd.c1, hd.c2⟩
  have f1' : fitB (n : Int) (1 : Int) (n : Int) = true := fitB_dim d1 (Nat.mul_one n).symm
  have f2' : fitB (1 : Int) (m : Int) (m : Int) = true := fitB_dim d2 (Nat.one_mul m).symm
  obtain ⟨W, hW⟩ : ∃ W, W = w.alloc (.cells #[.int .i64 0, .int .i64 0, .slice none 0 0] 30) := ⟨_, rfl⟩
  have b0 : Bl w W := by rw [hW]; exact (Bl.refl _).alloc _
  have z0 : MBox W w.heap.size 0 0 none 0 0 := by rw [hW]; exact MBox.new w _ _ _ _ _ _
  have hs : W.heap.size = w.heap.size + 1 := by rw [hW]; simp
  have HK := hideP hk
  have HH := hideP hh
  have HW := hideP hW
  have HN := hideP hN
  clear hW hk hh hN
  go_enter Tryz.func52, Tryz.ntmps52
  go_wp2_with fail
  rw [← HW.out]
  refine (mNewF (n : Int) (1 : Int) pk n ck (linJ n k) W (HK.out.later b0) f1' (linJ_len _ _)).mono ?_
  rintro e w1 ⟨p1, c1, rfl, ⟨hR1, _⟩, h1⟩
  obtain ⟨W1, hW1⟩ : ∃ W1, W1 = w1.alloc (.cells #[.int .i64 n, .int .i64 1, .slice p1 n c1] 30) := ⟨_, rfl⟩
  have b1 : Bl w1 W1 := by rw [hW1]; exact (Bl.refl _).alloc _
  have k1 : MBox W1 w1.heap.size n 1 p1 n c1 := by rw [hW1]; exact MBox.new w1 _ _ _ _ _ _
  have HW1 := hideP hW1
  have X1 := hideP (show Mx 3 cellsF W1 n 1 p1 n c1 (fun i _ => k i) from ⟨d1, (Nat.mul_one n).symm, by rw [linJ_col] at hR1; exact (hR1.later b1).q⟩)
  clear hW1 hR1
  have B1 : Bl w W1 := b0.trans (h1.trans b1)
  go_wp2_with fail
  rw [← HW1.out]
  refine (mNewF (1 : Int) (m : Int) ph m ch (linJ m h) W1 (HH.out.later B1) f2' (linJ_len _ _)).mono ?_
  rintro e w2 ⟨p2, c2, rfl, ⟨hR2, _⟩, h2⟩
  obtain ⟨W2, hW2⟩ : ∃ W2, W2 = w2.alloc (.cells #[.int .i64 1, .int .i64 m, .slice p2 m c2] 30) := ⟨_, rfl⟩
  have b2 : Bl w2 W2 := by rw [hW2]; exact (Bl.refl _).alloc _
  have k2 : MBox W2 w2.heap.size 1 m p2 m c2 := by rw [hW2]; exact MBox.new w2 _ _ _ _ _ _
  have HW2 := hideP hW2
  have X2 := hideP (show Mx 3 cellsF W2 1 m p2 m c2 (fun _ j => h j) from ⟨d2, (Nat.one_mul m).symm, by rw [linJ_one] at hR2; exact (hR2.later b2).q⟩)
  have k1' := k1.later (h2.trans b2)
  obtain ⟨x0, x1, x2, _, _, _, _⟩ := k1'
  obtain ⟨y0, y1, y2, _, _, _, _⟩ := k2
  rw [hW2] at x0 x1 x2 y0 y1 y2
  clear hW2 hR2
  have B2 : Bl w W2 := B1.trans (h2.trans b2)
  have MU := hideP (mMulF n 1 m p1 n c1 (fun i _ => k i) p2 m c2 (fun _ j => h j) N W2 (X1.out.later (h2.trans b2)) X2.out HN.out)
  go_wp2_with fail
  rw [← HW2.out]
  refine MU.out.mono ?_
  rintro e w3 ⟨p3, c3, rfl, ⟨hR, _, hF⟩, h3⟩
  obtain ⟨W4, hW4⟩ : ∃ W4, W4 = w3.alloc (.cells #[.int .i64 n, .int .i64 m, .slice p3 N c3] 30) := ⟨_, rfl⟩
  have b4 : Bl w3 W4 := by rw [hW4]; exact (Bl.refl _).alloc _
  have k4 := MBox.new w3 n m p3 N c3 30
  rw [← hW4] at k4
  have B4 : Bl w W4 := B2.trans (h3.trans b4)
  have HR := hideP (show Mx 3 cellsF W4 n m p3 N c3 (outerJ kdF k h) from Mx.later hR b4)
  have HF := hideP (show Fresh (w.heap.size + 1) (.slice p3 N c3) from fresh_le hF (by have := ((h1.trans b1).trans (h2.trans b2)).size; omega))
  have kz := z0.later (((h1.trans b1).trans (h2.trans b2)).trans (h3.trans b4))
  clear x0 x1 x2 y0 y1 y2
  obtain ⟨x0, x1, x2, _, _, _, _⟩ := k4
  obtain ⟨c0, c1', c2', f0, f1, f2, lt2⟩ := kz
  have HW4 := hideP hW4
  rw [hW4] at x0 x1 x2 c0 c1' c2' f0 f1 f2
  clear hW4 hR hF X1 X2 MU
  go_wp2_with fail
  rw [← HW4.out]
  rw [← HW4.out] at x0 x1 x2 c0 c1' c2' f0 f1 f2
  go_wp2
  simp [bodyPost, results, Tryz.results52, go_sem, c0, c1', c2']
  exact ⟨p3, c3, ⟨rfl, rfl⟩, ⟨mx_put7 HR.out HF.out _ _ _, fresh_le HF.out (by omega)⟩, Bl.put3 B4 (Nat.le_refl _) _ _ _⟩
set_option maxRecDepth 100000 in
set_option maxHeartbeats 2000000 in
theorem jRestF (n N : Nat) (pk : Option Addr) (ck : Nat) (k : Nat → Fr) (ph : Option Addr) (ch : Nat) (h : Nat → Fr) (w : World) (hk : Rq 3 cellsF w (.slice pk n ck) (linJ n k)) (hh : Rq 3 cellsF w (.slice ph n ch) (linJ n h)) (hd : Dim n n) (hN : N = n * n) :
    Calls Tryz.prog 51 #[.slice pk n ck, .slice ph n ch] w fun e w' => ∃ q c, e = .returned (mV n n q N c) ∧ (Mx 3 cellsF w' n n q N c (restJ kdF (fun i j => wholeF (unitI i j)) k h) ∧ Fresh w.heap.size (.slice q N c)) ∧ Bl w w' := by
  have fm : Tryz.prog.follows .mixedOrders = true := by kernel_rfl
  have egO := enters_of Tryz.func52 (by kernel_rfl) rfl
  have egS := enters_of Tryz.func97 (by kernel_rfl) rfl
  obtain ⟨W, hW⟩ : ∃ W, W = w.alloc (.cells #[.int .i64 0, .int .i64 0, .slice none 0 0] 30) := ⟨_, rfl⟩
  have b0 : Bl w W := by rw [hW]; exact (Bl.refl _).alloc _
  have z0 : MBox W w.heap.size 0 0 none 0 0 := by rw [hW]; exact MBox.new w _ _ _ _ _ _
  have hs : W.heap.size = w.heap.size + 1 := by rw [hW]; simp
  have HK := hideP hk
  have HH := hideP hh
  have HD := hideP hd
  have HN := hideP hN
  have HW := hideP hW
  have UN := hideP (mUnitF n N hd.r1 hd.r2 hN W)
  clear hW hk hh hd hN
  go_enter Tryz.func51, Tryz.ntmps51
  go_wp2_with fail
  rw [← HW.out]
  refine UN.out.mono ?_
  rintro e w1 ⟨p1, c1, rfl, h1x, h1⟩
  have k1 := MBox.new w1 n n p1 N c1 30
  obtain ⟨W2, hW2⟩ : ∃ W2, W2 = w1.alloc (.cells #[.int .i64 n, .int .i64 n, .slice p1 N c1] 30) := ⟨_, rfl⟩
  have b2 : Bl w1 W2 := by rw [hW2]; exact (Bl.refl _).alloc _
  rw [← hW2] at k1
  have hs2 : w.heap.size + 1 ≤ W2.heap.size := by have := (h1.trans b2).size; omega
  have HW2 := hideP hW2
  have B2 : Bl w W2 := b0.trans (h1.trans b2)
  have kz := z0.later (h1.trans b2)
  have H1 := hideP (Mx.later h1x b2)
  clear hW2 h1x UN
  go_wp2_with fail
  rw [← HW2.out]
  refine (wpIn_wide (n := 8)).1 (region_q fm [some 16, some 17, some 18, some 19, some 20, some 15, some 21, some 22, some 7, none, some 8] (fun j => j == 7 || j == 10) 9 (by kernel_rfl) (by rfl)
    (fun j v u => match j with | 0 => v = mV n n p1 N c1 | 1 => v = .slice pk n ck | 2 => v = .slice ph n ch | 3 => ∃ q c, v = mV n n q N c ∧ Mx 3 cellsF u n n q N c (outerJ kdF k h) | 4 => ∃ q c, v = .tuple #[mV n n q N c, .bool true] ∧ Mx 3 cellsF u n n q N c (restJ kdF (fun i j => wholeF (unitI i j)) k h) ∧ Fresh W2.heap.size (.slice q N c) | 5 => ∃ q c, v = .tuple #[mV n n q N c, .bool true] ∧ Mx 3 cellsF u n n q N c (restJ kdF (fun i j => wholeF (unitI i j)) k h) ∧ Fresh W2.heap.size (.slice q N c) | 6 => ∃ q c, v = mV n n q N c ∧ Mx 3 cellsF u n n q N c (restJ kdF (fun i j => wholeF (unitI i j)) k h) ∧ Fresh W2.heap.size (.slice q N c) | 7 => v = .bool true | 8 => ∃ b, v = .pointer (some ⟨b, 0, none⟩) ∧ W2.heap.size ≤ b ∧ MBox u b 0 0 none 0 0 ∧ NoB u b | 10 => v = .bool true | _ => False)
    (by
        intro j v u u' hb h
        split at h
        · exact h
        · exact h
        · exact h
        · obtain ⟨q, c, e, h1⟩ := h; exact ⟨q, c, e, Mx.later h1 hb⟩
        · obtain ⟨q, c, e, h1, h2⟩ := h; exact ⟨q, c, e, Mx.later h1 hb, h2⟩
        · obtain ⟨q, c, e, h1, h2⟩ := h; exact ⟨q, c, e, Mx.later h1 hb, h2⟩
        · obtain ⟨q, c, e, h1, h2⟩ := h; exact ⟨q, c, e, Mx.later h1 hb, h2⟩
        · exact h
        · obtain ⟨b, e, h1, h2, h3⟩ := h; exact ⟨b, e, h1, h2.later hb, h3.later hb h2.lt⟩
        · exact h
        · exact h) (fun vs u0 u => ∃ b q c, vs 8 = .pointer (some ⟨b, 0, none⟩) ∧ MBox u b n n q N c ∧ Mx 3 cellsF u n n q N c (restJ kdF (fun i j => wholeF (unitI i j)) k h) ∧ Fresh W2.heap.size (.slice q N c) ∧ MBox u w.heap.size 0 0 none 0 0 ∧ Bl w u) ?step ?still ?store ?fin)
  case step =>
    intro j o t act u ho hdt hpu hsz hu hfr hin
    have hj : j < 11 := (Array.getElem?_eq_some_iff.1 ho).1
    obtain ⟨y0, y1, y2, _, _, _, _⟩ := k1.later hu
    rcases (by omega : j = 0 ∨ j = 1 ∨ j = 2 ∨ j = 3 ∨ j = 4 ∨ j = 5 ∨ j = 6 ∨ j = 7 ∨ j = 8 ∨ j = 9 ∨ j = 10) with rfl | rfl | rfl | rfl | rfl | rfl | rfl | rfl | rfl | rfl | rfl
    · simp only [List.getElem?_toArray, List.getElem?_cons_zero, List.getElem?_cons_succ, Option.some.injEq] at ho
      subst ho
      obtain rfl := Option.some.inj hdt
      have i5 : act.eval (.tmp (5 : Nat)) = .pointer (some ⟨w1.heap.size, 0, none⟩) := hfr 5 (by decide)
      exact plain_wp (by intro c h; cases h) (fun _ _ => trivial) (by simp only [execOp, i5, evalC, evalF, evalG]; simp [go_sem, y0, y1, y2]) ⟨_, rfl, rfl, Bl.refl _⟩
    · simp only [List.getElem?_toArray, List.getElem?_cons_zero, List.getElem?_cons_succ, Option.some.injEq] at ho
      subst ho
      obtain rfl := Option.some.inj hdt
      have i0 : act.eval (.tmp (0 : Nat)) = .slice pk n ck := hfr 0 (by decide)
      exact plain_wp (by intro c h; cases h) (fun _ _ => trivial) (by simp only [execOp, i0, evalC, evalF, evalG]; simp [go_sem]) ⟨_, rfl, rfl, Bl.refl _⟩
    · simp only [List.getElem?_toArray, List.getElem?_cons_zero, List.getElem?_cons_succ, Option.some.injEq] at ho
      subst ho
      obtain rfl := Option.some.inj hdt
      have i1 : act.eval (.tmp (1 : Nat)) = .slice ph n ch := hfr 1 (by decide)
      exact plain_wp (by intro c h; cases h) (fun _ _ => trivial) (by simp only [execOp, i1, evalC, evalF, evalG]; simp [go_sem]) ⟨_, rfl, rfl, Bl.refl _⟩
    · simp only [List.getElem?_toArray, List.getElem?_cons_zero, List.getElem?_cons_succ, Option.some.injEq] at ho
      subst ho
      obtain rfl := Option.some.inj hdt
      have i17 : (act.eval (.tmp (17 : Nat))) = .slice pk n ck := hin ⟨1, .data⟩ (by simp) rfl 17 rfl
      have i18 : (act.eval (.tmp (18 : Nat))) = .slice ph n ch := hin ⟨2, .data⟩ (by simp) rfl 18 rfl
      refine enter_wp 52 #[.slice pk n ck, .slice ph n ch] (by intro c h; cases h) (fun _ _ => trivial) (by simp only [execOp, evalC, evalF, evalG, resolve, i17, i18, List.map_toArray, List.map_cons, List.map_nil]; simp [invoke, egO, Result.andThen, go_sem]) (by intro h; cases h) (callsIn_wide.2 (jOuterF n n N pk ck k ph ch h u (HK.out.later (B2.trans hu)) (HH.out.later (B2.trans hu)) HD.out HN.out)) ?_
      rintro e w' ⟨q, c, rfl, ⟨hM, _⟩, hb⟩
      exact ⟨_, rfl, _, rfl, ⟨q, c, rfl, hM⟩, hb⟩
    · simp only [List.getElem?_toArray, List.getElem?_cons_zero, List.getElem?_cons_succ, Option.some.injEq] at ho
      subst ho
      obtain rfl := Option.some.inj hdt
      have i16 : (act.eval (.tmp (16 : Nat))) = mV n n p1 N c1 := hin ⟨0, .data⟩ (by simp) rfl 16 rfl
      have i19 : ∃ q c, (act.eval (.tmp (19 : Nat))) = mV n n q N c ∧ Mx 3 cellsF u n n q N c (outerJ kdF k h) := hin ⟨3, .data⟩ (by simp) rfl 19 rfl
      obtain ⟨q0, c0', e1, hq⟩ := i19
      refine enter_wp 97 #[mV n n p1 N c1, mV n n q0 N c0'] (by intro c h; cases h) (fun _ _ => trivial) (by simp only [execOp, evalC, evalF, evalG, resolve, i16, e1, List.map_toArray, List.map_cons, List.map_nil]; simp [invoke, egS, Result.andThen, go_sem]) (by intro h; cases h) (callsIn_wide.2 (mSubF' n n p1 q0 N c1 c0' _ _ u (H1.out.later hu) hq)) ?_
      rintro e w' ⟨q, c, rfl, ⟨hM, hF⟩, hb⟩
      exact ⟨_, rfl, _, rfl, ⟨q, c, rfl, hM, fresh_le hF hu.size⟩, hb⟩
    · simp only [List.getElem?_toArray, List.getElem?_cons_zero, List.getElem?_cons_succ, Option.some.injEq] at ho
      subst ho
      obtain rfl := Option.some.inj hdt
      have i20 : ∃ q c, (act.eval (.tmp (20 : Nat))) = .tuple #[mV n n q N c, .bool true] ∧ Mx 3 cellsF u n n q N c (restJ kdF (fun i j => wholeF (unitI i j)) k h) ∧ Fresh W2.heap.size (.slice q N c) := hin ⟨4, .data⟩ (by simp) rfl 20 rfl
      obtain ⟨q0, c0', e1, hq⟩ := i20
      exact plain_wp (by intro c h; cases h) (fun _ _ => trivial) (by simp only [execOp, e1]; simp [go_sem]) ⟨_, rfl, ⟨q0, c0', rfl, hq⟩, Bl.refl _⟩
    · simp only [List.getElem?_toArray, List.getElem?_cons_zero, List.getElem?_cons_succ, Option.some.injEq] at ho
      subst ho
      obtain rfl := Option.some.inj hdt
      have i15 : ∃ q c, (act.eval (.tmp (15 : Nat))) = .tuple #[mV n n q N c, .bool true] ∧ Mx 3 cellsF u n n q N c (restJ kdF (fun i j => wholeF (unitI i j)) k h) ∧ Fresh W2.heap.size (.slice q N c) := hin ⟨5, .data⟩ (by simp) rfl 15 rfl
      obtain ⟨q0, c0', e1, hq⟩ := i15
      exact plain_wp (by intro c h; cases h) (fun _ _ => trivial) (by simp only [execOp, e1]; simp [go_sem]) ⟨_, rfl, ⟨q0, c0', rfl, hq⟩, Bl.refl _⟩
    · cases hpu
    · simp only [List.getElem?_toArray, List.getElem?_cons_zero, List.getElem?_cons_succ, Option.some.injEq] at ho
      subst ho
      obtain rfl := Option.some.inj hdt
      exact plain_wp (by intro c h; cases h) (fun _ _ => trivial) (w' := u.alloc (.cells #[.int .i64 0, .int .i64 0, .slice none 0 0] 30)) (v := .pointer (some ⟨u.heap.size, 0, none⟩)) (by simp only [execOp]; simp [go_sem]) ⟨_, rfl, ⟨u.heap.size, rfl, hu.size, MBox.new u 0 0 none 0 0 _, noB_new u _⟩, (Bl.refl _).alloc _⟩
    · simp only [List.getElem?_toArray, List.getElem?_cons_zero, List.getElem?_cons_succ, Option.some.injEq] at ho
      subst ho
      cases hdt
    · cases hpu
  case still =>
    intro j o t act u0 u ho hdt hpu hsz hu hfr hin
    have hj : j < 11 := (Array.getElem?_eq_some_iff.1 ho).1
    obtain ⟨y0, y1, y2, _, _, _, _⟩ := k1.later hu
    rcases (by omega : j = 0 ∨ j = 1 ∨ j = 2 ∨ j = 3 ∨ j = 4 ∨ j = 5 ∨ j = 6 ∨ j = 7 ∨ j = 8 ∨ j = 9 ∨ j = 10) with rfl | rfl | rfl | rfl | rfl | rfl | rfl | rfl | rfl | rfl | rfl
    · cases hpu
    · cases hpu
    · cases hpu
    · cases hpu
    · cases hpu
    · cases hpu
    · cases hpu
    · simp only [List.getElem?_toArray, List.getElem?_cons_zero, List.getElem?_cons_succ, Option.some.injEq] at ho
      subst ho
      obtain rfl := Option.some.inj hdt
      have i15 : ∃ q c, (act.eval (.tmp (15 : Nat))) = .tuple #[mV n n q N c, .bool true] ∧ Mx 3 cellsF u0 n n q N c (restJ kdF (fun i j => wholeF (unitI i j)) k h) ∧ Fresh W2.heap.size (.slice q N c) := hin ⟨5, .data⟩ (by simp) rfl 15 rfl
      obtain ⟨q0, c0', e1, hq⟩ := i15
      exact plain_wp (by intro c h; cases h) (fun _ _ => trivial) (by simp only [execOp, e1]; simp [go_sem]) ⟨_, rfl, rfl, rfl⟩
    · cases hpu
    · cases hpu
    · simp only [List.getElem?_toArray, List.getElem?_cons_zero, List.getElem?_cons_succ, Option.some.injEq] at ho
      subst ho
      obtain rfl := Option.some.inj hdt
      have i22 : (act.eval (.tmp (22 : Nat))) = .bool true := hin ⟨7, .data⟩ (by simp) rfl 22 rfl
      exact plain_wp (by intro c h; cases h) (fun _ _ => trivial) (by simp only [execOp, i22, evalC, evalF, evalG]; simp [go_sem]) ⟨_, rfl, rfl, rfl⟩
  case store =>
    intro o act u vs ho hsz hu hfr hin
    simp only [List.getElem?_toArray, List.getElem?_cons_zero, List.getElem?_cons_succ, Option.some.injEq] at ho
    subst ho
    obtain ⟨i7, k7⟩ : act.eval (.tmp (7 : Nat)) = vs 8 ∧ (∃ b, (vs 8) = .pointer (some ⟨b, 0, none⟩) ∧ W2.heap.size ≤ b ∧ MBox u b 0 0 none 0 0 ∧ NoB u b) := hin 8 7 rfl rfl
    obtain ⟨i21, k21⟩ : act.eval (.tmp (21 : Nat)) = vs 6 ∧ (∃ q c, (vs 6) = mV n n q N c ∧ Mx 3 cellsF u n n q N c (restJ kdF (fun i j => wholeF (unitI i j)) k h) ∧ Fresh W2.heap.size (.slice q N c)) := hin 6 21 rfl rfl
    obtain ⟨b, e1, hb, bx, nb⟩ := k7
    obtain ⟨q0, c0', e2, hq, hf⟩ := k21
    rw [e1] at i7
    rw [e2] at i21
    obtain ⟨c0, c1', c2, f0, f1, f2, ltb⟩ := id bx
    exact skip_wp (by intro c h; cases h) (fun _ _ => trivial) (by simp only [execOp, i7, i21]; simp [go_sem, c0, c1', c2, f0, f1, f2]) ⟨rfl, b, q0, c0', e1, bx.fill _ _ _ _ _, mx_ne7 hq (noB_mx boolF hq nb) _ _ _, hf, mbox_set7 (mbox_set7 (mbox_set7 (kz.later hu) (by omega) _ _) (by omega) _ _) (by omega) _ _, Bl.put3 (B2.trans hu) (by omega) _ _ _⟩
  case fin =>
    intro vs vb u0 u hu hin hps
    have a0 := hin 0 16 rfl
    have a1 := hin 1 17 rfl
    have a2 := hin 2 18 rfl
    have a3 := hin 3 19 rfl
    have a4 := hin 4 20 rfl
    have a5 := hin 5 15 rfl
    have a6 := hin 6 21 rfl
    have a7 := hin 7 22 rfl
    have a8 := hin 8 7 rfl
    have a10 := hin 10 8 rfl
    simp only [putL, Act.put, List.setIfInBounds_toArray, List.set_cons_zero, List.set_cons_succ, Nat.zero_add, Nat.reduceAdd, Nat.reduceBEq, Bool.or_false, Bool.or_true, Bool.false_or, Bool.true_or, Bool.false_eq_true, if_false, if_true, reduceIte, Nat.reduceEqDiff, beq_self_eq_true, Bool.or_self] at a0 a1 a2 a3 a4 a5 a6 a7 a8 a10 ⊢
    rw [if_pos (by decide)] at hps
    simp only [a0, a1, a2, a7, a10]
    obtain ⟨b, q, c, e7, kx, hM, hF, kz', hbw⟩ := hps
    simp only [e7]
    clear a3 a4 a5 a6 a8
    have HR := hideP hM
    have HF := hideP (show Fresh (w.heap.size + 1) (.slice q N c) from fresh_le hF (by omega))
    clear hM hF
    obtain ⟨x0, x1, x2, _, _, _, _⟩ := kx
    obtain ⟨c0, c1', c2, f0, f1, f2, lt2⟩ := kz'
    go_wp2
    simp [bodyPost, results, Tryz.results51, go_sem, c0, c1', c2]
    exact ⟨q, c, ⟨rfl, rfl⟩, ⟨mx_put7 HR.out HF.out _ _ _, fresh_le HF.out (by omega)⟩, Bl.put3 hbw (by omega) _ _ _⟩
end Go.Proofs.YtljmggemdkfbiaaGreat
