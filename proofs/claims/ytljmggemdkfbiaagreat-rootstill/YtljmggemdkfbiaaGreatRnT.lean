/- Rows of enclosed numbers, number by number; '==' of two that are the same (for RootStill). -/
import Derived.Test.YtljmggemdkfbiaaGreatRnS
import Derived.Test.YtljmggemdkfbiaaGreatNN9
import Derived.Test.YtljmggemdkfbiaaGreatRoDN
namespace Go.Proofs.YtljmggemdkfbiaaGreat
open Go.RowKit
set_option linter.unusedSimpArgs false
set_option linter.unusedVariables false

theorem eql_nn (a : En) (w : World) : (binOp .eql 52 (enV a) (enV a)).run Tryz.prog w = .ok (.bool true) w := by
  rw [run_eql_struct, run_equalIn_agg _ _ _ _ _ Tryz.nnFields Tryz.nnHeld]
  rw [eqFields_map 9999 #[.int .i64 a.v, .int .i64 a.l, .int .i64 a.h, .bool a.bad] #[.int .i64 a.v, .int .i64 a.l, .int .i64 a.h, .bool a.bad] _ [{ name := "V", type := 3, offset := 0, embedded := false, tag := "", pkgPath := "", byteOffset := 0 }, { name := "Low", type := 3, offset := 1, embedded := false, tag := "", pkgPath := "", byteOffset := 0 }, { name := "High", type := 3, offset := 2, embedded := false, tag := "", pkgPath := "", byteOffset := 0 }, { name := "Bad", type := 4, offset := 3, embedded := false, tag := "", pkgPath := "", byteOffset := 0 }] Tryz.nnList]
  simp [Op.eqFields, part, go_sem]
theorem rq_cellsL {w : World} {p : Option Addr} {n cap : Nat} {L : List En} (h : Rq 4 cellsN w (.slice p n cap) L) (h0 : 0 < n) : ∃ g o, p = some ⟨g, o, none⟩ ∧ L.length = n ∧ ∀ u, Bl w u → ∀ (j : Nat) (x : En), L[j]? = some x →
    u.cell? ⟨g, o + j * 4, none⟩ = some (.int .i64 x.v) ∧ u.cell? ⟨g, o + j * 4 + 1, none⟩ = some (.int .i64 x.l) ∧ u.cell? ⟨g, o + j * 4 + 2, none⟩ = some (.int .i64 x.h) ∧ u.cell? ⟨g, o + j * 4 + 3, none⟩ = some (.bool x.bad) := by
  rcases h with ⟨p', cap', e, hx, _⟩ | ⟨b, o, cap', e, hc, hb, hx⟩
  · simp only [Value.slice.injEq] at e
    omega
  · simp only [Value.slice.injEq] at e
    obtain ⟨rfl, rfl, rfl⟩ := e
    refine ⟨b, o, rfl, rfl, fun u hu j x hj => ⟨?_, ?_, ?_, ?_⟩⟩
    · have := hx j x hj 0 _ rfl
      exact (bl_cell hu _ _ hb).trans (by simpa using this)
    · exact (bl_cell hu _ _ hb).trans (hx j x hj 1 _ rfl)
    · exact (bl_cell hu _ _ hb).trans (hx j x hj 2 _ rfl)
    · exact (bl_cell hu _ _ hb).trans (hx j x hj 3 _ rfl)
theorem getD_sml {A : Int} {L : List Int} (h : Sml A L) {i : Nat} (hi : i < L.length) : -A ≤ L.getD i 0 ∧ L.getD i 0 ≤ A := by
  rw [List.getD_eq_getElem?_getD, List.getElem?_eq_getElem hi]
  exact h _ (List.getElem_mem hi)
/-- RootStill's mathematics, of a case. -/
theorem still10 {m N : Nat} {X Ro : List Int} {r z : Int} (m3 : m ≤ 3) (hN : N = m * m) (hx : X.length = m) (hr : Ro.length = N) (sx : Sml 5 X) (sr : Sml 5 Ro) (r1 : 1 ≤ r) (r5 : r ≤ 5) (z1 : -5 ≤ z) (z5 : z ≤ 5) :
    StillO m (clrN fun i k => wholeN (ofL m Ro i k)) (fun i => wholeN (X.getD i 0)) (itN r) (itN z) := by
  have hs := clrI_sm (A := 5) (n := m) (f := ofL m Ro) (by omega) (ofL_sml (by rw [hr, hN]) sr)
  refine stillO m3 (s := clrI (ofL m Ro)) (x := fun i => X.getD i 0) hs (fun i hi => getD_sml sx (by omega)) r1 r5 z1 z5 (fun i k hi hk => ?_) (fun i hi => ?_)
  · have h5 := ofL_sml (show Ro.length = m * m by rw [hr, hN]) sr i k hi hk
    unfold clrN clrI
    split
    · exact wholeN_it (by omega)
    · exact wholeN_it (by omega)
  · have := getD_sml sx (show i < X.length by omega)
    exact wholeN_it (by omega)
end Go.Proofs.YtljmggemdkfbiaaGreat
