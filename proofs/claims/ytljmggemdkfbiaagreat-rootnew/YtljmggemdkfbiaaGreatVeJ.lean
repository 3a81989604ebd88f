/- Contracts in the words of layer 5's laws: few whole numbers, as fractions; awake. -/
import Derived.Test.YtljmggemdkfbiaaGreatVeI
namespace Go.Proofs.YtljmggemdkfbiaaGreat
open Go.RowKit
set_option linter.unusedSimpArgs false
set_option linter.unusedVariables false

theorem eqR_self (r : Fr) : eqR r r = true := eqR_iff.2 rfl
theorem eql_selfV (r : Fr) (w : World) : (binOp .eql 34 (frV r) (frV r)).run Tryz.prog w = .ok (.bool true) w := by rw [eql_fr, eqR_self]
theorem new_few {n : Int} (h : Wh n) (w : World) : Calls Tryz.prog 17 #[.int .i64 n, .int .i64 1] w fun e w' => e = .returned (frV (itF n)) ∧ Bl w w' := by
  rw [← new_it h]
  exact new_any n 1 w
/-- A row of whole numbers. -/
abbrev RwI (w : World) (v : Value) (ns : List Int) : Prop := Rw 3 cellsF w v (ns.map itF)
theorem rw_slice {w : World} {v : Value} {ns : List Int} (h : RwI w v ns) : ∃ p c, v = .slice p ns.length c ∧ ns.length ≤ c := by
  obtain ⟨p, c, e, h1, _⟩ := h.cut
  rw [List.length_map] at e h1
  exact ⟨p, c, e, h1⟩
theorem whole_few (v : Value) (ns : List Int) (w : World) (h : Rq 1 cI w v ns) (hs : Sml 1000 ns) (hl : ns.length ≤ 20) :
    Calls Tryz.prog 16 #[v] w fun e w' => ∃ p c, e = .returned (.slice p ns.length c) ∧ (RwI w' (.slice p ns.length c) ns ∧ ns.length ≤ c) ∧ Bl w w' := by
  refine (vWholeF v ns w h (by omega)).mono ?_
  rintro e w' ⟨u, rfl, hr, hb⟩
  rw [wholes_it ns hs (by omega)] at hr
  obtain ⟨p, c, rfl, hc⟩ := rw_slice hr
  exact ⟨p, c, rfl, ⟨hr, hc⟩, hb⟩
theorem add_few (va vb : Value) (xs ys : List Int) (w : World) (ha : RwI w va xs) (hb : RwI w vb ys) (hx : Sml 1000 xs) (hy : Sml 1000 ys) (hl : xs.length ≤ 20) (hm : ys.length ≤ 20) :
    Calls Tryz.prog 49 #[va, vb] w fun e w' => ∃ p c, e = .returned (.slice p (min xs.length ys.length) c) ∧ (RwI w' (.slice p (min xs.length ys.length) c) (List.zipWith (· + ·) xs ys) ∧ min xs.length ys.length ≤ c) ∧ Bl w w' := by
  refine (vAddF va vb _ _ w ha.q hb.q (by simp; omega) (by simp; omega)).mono ?_
  rintro e w' ⟨u, rfl, hr, hb⟩
  rw [adds_it (A := 1000) (B := 1000) (by omega) (by omega) (by omega) xs ys hx hy] at hr
  obtain ⟨p, c, rfl, hc⟩ := rw_slice hr
  rw [List.length_zipWith] at hr hc ⊢
  exact ⟨p, c, rfl, ⟨hr, hc⟩, hb⟩
theorem sub_few (va vb : Value) (xs ys : List Int) (w : World) (ha : RwI w va xs) (hb : RwI w vb ys) (hx : Sml 1000 xs) (hy : Sml 1000 ys) (hl : xs.length ≤ 20) (hm : ys.length ≤ 20) :
    Calls Tryz.prog 135 #[va, vb] w fun e w' => ∃ p c, e = .returned (.slice p (min xs.length ys.length) c) ∧ (RwI w' (.slice p (min xs.length ys.length) c) (List.zipWith (· - ·) xs ys) ∧ min xs.length ys.length ≤ c) ∧ Bl w w' := by
  refine (vSubF va vb _ _ w ha.q hb.q (by simp; omega) (by simp; omega)).mono ?_
  rintro e w' ⟨u, rfl, hr, hb⟩
  rw [subs_it (A := 1000) (B := 1000) (by omega) (by omega) (by omega) xs ys hx hy] at hr
  obtain ⟨p, c, rfl, hc⟩ := rw_slice hr
  rw [List.length_zipWith] at hr hc ⊢
  exact ⟨p, c, rfl, ⟨hr, hc⟩, hb⟩
theorem scale_few (v : Value) (xs : List Int) (b : Int) (w : World) (h : RwI w v xs) (hx : Sml 1000 xs) (hb : -1000 ≤ b ∧ b ≤ 1000) (hl : xs.length ≤ 20) :
    Calls Tryz.prog 50 #[v, frV (itF b)] w fun e w' => ∃ p c, e = .returned (.slice p xs.length c) ∧ (RwI w' (.slice p xs.length c) (xs.map (· * b)) ∧ xs.length ≤ c) ∧ Bl w w' := by
  refine (vScaleF v _ (itF b) w h (by simp; omega)).mono ?_
  rintro e w' ⟨u, rfl, hr, hbl⟩
  rw [scale_it (A := 1000) (B := 1000) (by omega) (by omega) (by omega) hb xs hx] at hr
  obtain ⟨p, c, rfl, hc⟩ := rw_slice hr
  rw [List.length_map] at hr hc ⊢
  exact ⟨p, c, rfl, ⟨hr, hc⟩, hbl⟩
theorem dot_few {A B : Int} (va vb : Value) (xs ys : List Int) (w : World) (ha : RwI w va xs) (hb : RwI w vb ys) (hx : Sml A xs) (hy : Sml B ys) (hA : 0 ≤ A ∧ A ≤ 100000) (hB : 0 ≤ B ∧ B ≤ 2000) (hAB : A * B ≤ 53687091) (hl : xs.length ≤ 20) (hm : ys.length ≤ 20) :
    Calls Tryz.prog 47 #[va, vb] w fun e w' => e = .returned (frV (itF (dotI xs ys))) ∧ Bl w w' := by
  rw [← dot_it hx hy hA hB hl hAB]
  exact vDotF va vb _ _ w ha.q hb.q (by simp; omega) (by simp; omega)
theorem sum_few' (v : Value) (xs : List Int) (w : World) (h : RwI w v xs) (hx : Sml 1000 xs) (hl : xs.length ≤ 20) :
    Calls Tryz.prog 92 #[v] w fun e w' => e = .returned (frV (itF xs.sum)) ∧ Bl w w' := by
  rw [← sum_it (B := 1000) xs hx (by omega) (by omega)]
  exact vsumF v _ w h.q (by simp; omega)
theorem sml12 : Sml 1000 [1, 2] := by intro x hx; simp at hx; omega
theorem sml34 : Sml 1000 [3, 4] := by intro x hx; simp at hx; omega
end Go.Proofs.YtljmggemdkfbiaaGreat
