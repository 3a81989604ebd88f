/- Contracts of vec's Scale, Clone, and of what is done of a pair, of enclosed numbers (layer 5). Written by genVe.py. -/
import Derived.Test.YtljmggemdkfbiaaGreatVeAN
namespace Go.Proofs.YtljmggemdkfbiaaGreat
open Go.RowKit
set_option linter.unusedSimpArgs false
set_option linter.unusedVariables false

set_option maxHeartbeats 1000000 in
theorem vScaleN (v : Value) (xs : List En) (by_ : En) (w : World) (h : Rw 4 cellsN w v xs) (hl : xs.length ≤ 1000000) :
    Calls Tryz.prog 78 #[v, enV by_] w fun e w' => ∃ u, e = .returned u ∧ Rw 4 cellsN w' u (xs.map fun x => mulE x by_) ∧ Bl w w' := by
  have iv := Tryz.mMulN
  obtain ⟨i0, hi, hz0, hz1, hz2⟩ := info_parts Tryz.info_N
  have x0 := Box.new w by_ 52
  rcases h with ⟨rfl, rfl⟩ | ⟨b, o, cap, rfl, hc, hb, hx⟩
  · go_enter Tryz.func78, Tryz.ntmps78
    go_wp2_with (at_make; refine wpList_make_own _ rfl _ _ 46 rfl w.heap.size 52 i0 (.agg #[.int .i64 0, .int .i64 0, .int .i64 0, .bool false]) 4 Tryz.underlying46 hi hz0 hz1 .i64 .i64 _ 0 rfl rfl (by simp) (by rw [hz2]; omega) (by unfold maxLen; omega) (by simp) ?_; intro w0 hown0 hgrow0)
    rw [World.size_alloc] at hown0
    have hB0 : Bl w w0 := Below.grown (Below.alloc (Bl.refl w) (Nat.le_refl _) _) hgrow0 (by simp) (fun k e => by cases e)
    go_loopw [5, 13] (fun v i wr => i = .int .i64 0 ∧ wr.ownsRow w.heap.size 52 4 v 0 [] ∧ Bl w wr) (fun _ _ _ => 0)
    case atStart => exact ⟨rfl, hown0, hB0⟩
    case round =>
      obtain ⟨rfl, hown, hB⟩ := hrel
      go_wp2
      go_ret
      exact ⟨_, rfl, Rw.of_own cellsN_len (xs := []) hown, hB⟩
  · have HX := hideP hx
    clear hx
    go_enter Tryz.func78, Tryz.ntmps78
    go_wp2_with (at_make; refine wpList_make_own _ rfl _ _ 46 rfl (w.heap.size + 1) 52 i0 (.agg #[.int .i64 0, .int .i64 0, .int .i64 0, .bool false]) 4 Tryz.underlying46 hi hz0 hz1 .i64 .i64 _ xs.length rfl rfl (by simp) (by rw [hz2]; omega) (by unfold maxLen; omega) (by simp) ?_; intro w0 hown0 hgrow0)
    rw [World.size_alloc] at hown0
    have hB1 : Bl (w.alloc (.cells #[.int .i64 by_.v, .int .i64 by_.l, .int .i64 by_.h, .bool by_.bad] 52)) w0 := Below.grown (Bl.refl _) hgrow0 (Nat.le_refl _) (fun k e => by cases e)
    have hB0 : Bl w w0 := ((Bl.refl w).alloc _).trans hB1
    go_loopw [5, 13] (fun v i wr => ∃ k : Nat, i = .int .i64 k ∧ k ≤ xs.length ∧ Box wr w.heap.size by_ ∧ wr.ownsRow (w.heap.size + 1) 52 4 v ((xs.take k).map fun x => mulE x by_).length (((xs.take k).map fun x => mulE x by_).flatMap cellsN) ∧ Bl w wr) (fun _ i _ => xs.length - (intOf i).toNat)
    case atStart => exact ⟨0, rfl, Nat.zero_le _, x0.later hB1, hown0, hB0⟩
    case round =>
      obtain ⟨k, rfl, hk, bx, hown, hB⟩ := hrel
      by_cases hlt : k < xs.length
      · obtain ⟨x, hx⟩ : ∃ x, xs[k]? = some x := ⟨_, List.getElem?_eq_getElem hlt⟩
        have CX : ∀ j u, (cellsN x)[j]? = some u → wr.cell? ⟨b, o + k * 4 + j, none⟩ = some u := fun j u hu => (bl_cell hB _ _ hb).trans (HX.out k x hx j u hu)
        have y0 : wr.cell? ⟨b, o + k * 4, none⟩ = some (.int .i64 x.v) := CX 0 _ rfl
        have y1 : wr.cell? ⟨b, o + k * 4 + 1, none⟩ = some (.int .i64 x.l) := CX 1 _ rfl
        have y2 : wr.cell? ⟨b, o + k * 4 + 2, none⟩ = some (.int .i64 x.h) := CX 2 _ rfl
        have y3 : wr.cell? ⟨b, o + k * 4 + 3, none⟩ = some (.bool x.bad) := CX 3 _ rfl
        clear CX
        obtain ⟨c0, c1, c2, c3, f0, f1, f2, f3, lt⟩ := id bx
        have HT := hideP (show (xs.take (k + 1)).map (fun x => mulE x by_) = (xs.take k).map (fun x => mulE x by_) ++ [mulE x by_] by rw [List.take_add_one, hx]; simp)
        have HK := hideP (show ((xs.take k).map fun x => mulE x by_).length = k by simp; omega)
        generalize hys : (xs.take k).map (fun x => mulE x by_) = ys at *
        clear hys
        go_wp2_with fail
        refine (emul_any _ _ _).mono ?_
        rintro e w2 ⟨rfl, h2⟩
        have bl2 : Bl wr w2 := ((Bl.refl _).alloc _).trans h2
        generalize mulE x by_ = r at *
        clear y0 y1 y2 y3 c0 c1 c2 c3
        replace hown := own_blN hown bl2
        replace hB := hB.trans bl2
        have bx2 := bx.later bl2
        have hkk := HK.out
        go_wp2_with (at_builtin; refine wpList_append_own _ rfl _ _ 46 rfl (w.heap.size + 1) 52 i0 (.agg #[.int .i64 0, .int .i64 0, .int .i64 0, .bool false]) 4 32 Tryz.underlying46 hi hz0 hz1 hz2 rfl (by decide) _ _ _ rfl (hown.alloc _) ⟨_, 0, none⟩ 1 1 (cellsN r) rfl rfl (newN_cells _ _ _) (oneN_cells _) (by unfold maxLen; omega) (by omega) (by have := bx2.lt; simp; omega) ?_; intro v' w1 hown' hgrow _)
        have R := ownN_step' (n₀ := w.heap.size + 1) hB (by omega) hown hown' hgrow
        have bx3 := bx2.grown ((Bl.refl _).alloc _) hown hgrow (by omega)
        clear hown hown' hgrow
        go_wp2
        go_roundw
        case rel => exact ⟨k + 1, by simp, hlt, bx3, by rw [HT.out]; exact R.2, R.1⟩
        case measure => simp [intOf]; omega
      · have hk' : k = xs.length := by omega
        subst hk'
        rw [List.take_length] at hown
        have R := hideP (Rw.of_own cellsN_len hown)
        clear hown
        go_wp2
        go_ret
        exact ⟨_, rfl, R.out, hB⟩

theorem dAddN (a b : En) (w : World) :
    Calls Tryz.prog 123 #[enV a, enV b] w fun e w' => e = .returned (enV (addE a b)) ∧ Bl w w' := by
  have iv := Tryz.mAddN
  obtain ⟨W, X⟩ := three_ex w a b
  have T := hideP (eadd_any a b)
  have HX := hideP X
  clear X
  generalize addE a b = r at *
  go_enter Tryz.func123, Tryz.ntmps123
  go_wp2_with fail
  rw [← HX.out.eq]
  refine (T.out _).mono ?_
  rintro e w1 ⟨rfl, h1⟩
  obtain ⟨c0, c1, c2, c3, f0, f1, f2, f3, lt⟩ := HX.out.bz.later h1
  clear iv
  go_wp2
  simp [bodyPost, results, Tryz.results123, go_sem, c0, c1, c2, c3]
  exact Bl.set4 (HX.out.bl.trans h1) (by omega) _ _ _ _

theorem dSubN (a b : En) (w : World) :
    Calls Tryz.prog 166 #[enV a, enV b] w fun e w' => e = .returned (enV (subE a b)) ∧ Bl w w' := by
  have iv := Tryz.mSubN
  obtain ⟨W, X⟩ := three_ex w a b
  have T := hideP (esub_any a b)
  have HX := hideP X
  clear X
  generalize subE a b = r at *
  go_enter Tryz.func166, Tryz.ntmps166
  go_wp2_with fail
  rw [← HX.out.eq]
  refine (T.out _).mono ?_
  rintro e w1 ⟨rfl, h1⟩
  obtain ⟨c0, c1, c2, c3, f0, f1, f2, f3, lt⟩ := HX.out.bz.later h1
  clear iv
  go_wp2
  simp [bodyPost, results, Tryz.results166, go_sem, c0, c1, c2, c3]
  exact Bl.set4 (HX.out.bl.trans h1) (by omega) _ _ _ _

theorem dMulN (a b : En) (w : World) :
    Calls Tryz.prog 122 #[enV a, enV b] w fun e w' => e = .returned (enV (mulE a b)) ∧ Bl w w' := by
  have iv := Tryz.mMulN
  obtain ⟨W, X⟩ := three_ex w a b
  have T := hideP (emul_any a b)
  have HX := hideP X
  clear X
  generalize mulE a b = r at *
  go_enter Tryz.func122, Tryz.ntmps122
  go_wp2_with fail
  rw [← HX.out.eq]
  refine (T.out _).mono ?_
  rintro e w1 ⟨rfl, h1⟩
  obtain ⟨c0, c1, c2, c3, f0, f1, f2, f3, lt⟩ := HX.out.bz.later h1
  clear iv
  go_wp2
  simp [bodyPost, results, Tryz.results122, go_sem, c0, c1, c2, c3]
  exact Bl.set4 (HX.out.bl.trans h1) (by omega) _ _ _ _

end Go.Proofs.YtljmggemdkfbiaaGreat
