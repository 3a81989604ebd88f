/- Contract of root's shares (layer 10). Written by genRo.py. -/
import Derived.Test.YtljmggemdkfbiaaGreatJoCF
namespace Go.Proofs.YtljmggemdkfbiaaGreat
open Go.RowKit
set_option linter.unusedSimpArgs false
set_option linter.unusedVariables false

set_option maxHeartbeats 1000000 in
theorem rShares0F (v : Value) (xs : List Fr) (by_ : Fr) (w : World) (h : Rw 3 cellsF w v xs) (hl : xs.length ≤ 1000000) :
    Calls Tryz.prog 68 #[v, frV by_] w fun e w' => ∃ u, e = .returned u ∧ Rw 3 cellsF w' u (xs.map fun x => divR x by_) ∧ Fresh w.heap.size u ∧ Bl w w' := by
  have iv := Tryz.mDivF
  obtain ⟨i0, hi, hz0, hz1, hz2⟩ := info_parts Tryz.info_F
  have x0 := FBox.new w by_ 34
  rcases h with ⟨rfl, rfl⟩ | ⟨b, o, cap, rfl, hc, hb, hx⟩
  · go_enter Tryz.func68, Tryz.ntmps68
    go_wp2_with (at_make; refine wpList_make_own _ rfl _ _ 28 rfl w.heap.size 34 i0 (.agg #[.int .i64 0, .int .i64 0, .bool false]) 3 Tryz.underlying28 hi hz0 hz1 .i64 .i64 _ 0 rfl rfl (by simp) (by rw [hz2]; omega) (by unfold maxLen; omega) (by simp) ?_; intro w0 hown0 hgrow0)
    rw [World.size_alloc] at hown0
    have hB0 : Bl w w0 := Below.grown (Below.alloc (Bl.refl w) (Nat.le_refl _) _) hgrow0 (by simp) (fun k e => by cases e)
    go_loopw [5, 13] (fun v i wr => i = .int .i64 0 ∧ wr.ownsRow w.heap.size 34 3 v 0 [] ∧ Bl w wr) (fun _ _ _ => 0)
    case atStart => exact ⟨rfl, hown0, hB0⟩
    case round =>
      obtain ⟨rfl, hown, hB⟩ := hrel
      go_wp2
      go_ret
      exact ⟨_, rfl, Rw.of_own cellsF_len (xs := []) hown, fresh_ownF hown (Nat.le_refl _), hB⟩
  · have HX := hideP hx
    clear hx
    go_enter Tryz.func68, Tryz.ntmps68
    go_wp2_with (at_make; refine wpList_make_own _ rfl _ _ 28 rfl (w.heap.size + 1) 34 i0 (.agg #[.int .i64 0, .int .i64 0, .bool false]) 3 Tryz.underlying28 hi hz0 hz1 .i64 .i64 _ xs.length rfl rfl (by simp) (by rw [hz2]; omega) (by unfold maxLen; omega) (by simp) ?_; intro w0 hown0 hgrow0)
    rw [World.size_alloc] at hown0
    have hB1 : Bl (w.alloc (.cells #[.int .i64 by_.n, .int .i64 by_.d, .bool by_.bad] 34)) w0 := Below.grown (Bl.refl _) hgrow0 (Nat.le_refl _) (fun k e => by cases e)
    have hB0 : Bl w w0 := ((Bl.refl w).alloc _).trans hB1
    go_loopw [5, 13] (fun v i wr => ∃ k : Nat, i = .int .i64 k ∧ k ≤ xs.length ∧ FBox wr w.heap.size by_ ∧ wr.ownsRow (w.heap.size + 1) 34 3 v ((xs.take k).map fun x => divR x by_).length (((xs.take k).map fun x => divR x by_).flatMap cellsF) ∧ Bl w wr) (fun _ i _ => xs.length - (intOf i).toNat)
    case atStart => exact ⟨0, rfl, Nat.zero_le _, x0.later hB1, hown0, hB0⟩
    case round =>
      obtain ⟨k, rfl, hk, bx, hown, hB⟩ := hrel
      by_cases hlt : k < xs.length
      · obtain ⟨x, hx⟩ : ∃ x, xs[k]? = some x := ⟨_, List.getElem?_eq_getElem hlt⟩
        have CX : ∀ j u, (cellsF x)[j]? = some u → wr.cell? ⟨b, o + k * 3 + j, none⟩ = some u := fun j u hu => (bl_cell hB _ _ hb).trans (HX.out k x hx j u hu)
        have y0 : wr.cell? ⟨b, o + k * 3, none⟩ = some (.int .i64 x.n) := CX 0 _ rfl
        have y1 : wr.cell? ⟨b, o + k * 3 + 1, none⟩ = some (.int .i64 x.d) := CX 1 _ rfl
        have y2 : wr.cell? ⟨b, o + k * 3 + 2, none⟩ = some (.bool x.bad) := CX 2 _ rfl
        clear CX
        obtain ⟨c0, c1, c2, f0, f1, f2, lt⟩ := id bx
        have HT := hideP (show (xs.take (k + 1)).map (fun x => divR x by_) = (xs.take k).map (fun x => divR x by_) ++ [divR x by_] by rw [List.take_add_one, hx]; simp)
        have HK := hideP (show ((xs.take k).map fun x => divR x by_).length = k by simp; omega)
        generalize hys : (xs.take k).map (fun x => divR x by_) = ys at *
        clear hys
        go_wp2_with fail
        refine (rdiv_any _ _ _).mono ?_
        rintro e w2 ⟨rfl, h2⟩
        have bl2 : Bl wr w2 := ((Bl.refl _).alloc _).trans h2
        generalize divR x by_ = r at *
        clear y0 y1 y2 c0 c1 c2
        replace hown := own_blF hown bl2
        replace hB := hB.trans bl2
        have bx2 := bx.later bl2
        have hkk := HK.out
        go_wp2_with (at_builtin; refine wpList_append_own _ rfl _ _ 28 rfl (w.heap.size + 1) 34 i0 (.agg #[.int .i64 0, .int .i64 0, .bool false]) 3 24 Tryz.underlying28 hi hz0 hz1 hz2 rfl (by decide) _ _ _ rfl (hown.alloc _) ⟨_, 0, none⟩ 1 1 (cellsF r) rfl rfl (newF_cells _ _ _) (oneF_cells _) (by unfold maxLen; omega) (by omega) (by have := bx2.lt; simp; omega) ?_; intro v' w1 hown' hgrow _)
        have R := ownF_step' (n₀ := w.heap.size + 1) hB (by omega) hown hown' hgrow
        have bx3 := bx2.grown ((Bl.refl _).alloc _) hown hgrow (by omega)
        clear hown hown' hgrow
        go_wp2
        go_roundw
        case rel => exact ⟨k + 1, by simp, hlt, bx3, by rw [HT.out]; exact R.2, R.1⟩
        case measure => simp [intOf]; omega
      · have hk' : k = xs.length := by omega
        subst hk'
        rw [List.take_length] at hown
        have R := hideP (Rw.of_own cellsF_len hown)
        have FR := hideP (fresh_ownF hown (Nat.le_succ _))
        clear hown
        go_wp2
        go_ret
        exact ⟨_, rfl, R.out, FR.out, hB⟩


theorem rSharesF (n : Nat) (p : Option Addr) (cap : Nat) (u : Nat → Fr) (a : Fr) (w : World) (h : Rw 3 cellsF w (.slice p n cap) (linJ n u)) (hl : n ≤ 1000000) :
    Calls Tryz.prog 68 #[.slice p n cap, frV a] w fun e w' => ∃ q c, e = .returned (.slice q n c) ∧ (Rw 3 cellsF w' (.slice q n c) (linJ n (fun i => divR (u i) a)) ∧ Fresh w.heap.size (.slice q n c)) ∧ Bl w w' :=
  (rShares0F _ _ a w h (by rw [linJ_len]; exact hl)).mono fun e w' ⟨v, he, hr, hf, hb⟩ => by
    rw [linJ_map] at hr
    obtain ⟨q, c, rfl, _, _⟩ := hr.cut
    rw [linJ_len] at hr hf he
    exact ⟨q, c, he, ⟨hr, hf⟩, hb⟩
end Go.Proofs.YtljmggemdkfbiaaGreat
