/- Contract of layer 6's Alike. -/
import Derived.Test.YtljmggemdkfbiaaGreatMaS
namespace Go.Proofs.YtljmggemdkfbiaaGreat
open Go.RowKit
set_option linter.unusedSimpArgs false
set_option linter.unusedVariables false

/-- Two rows of the same numbers, cell by cell. -/
theorem rq_cells {p : Option Addr} {n cap : Nat} {xs : List Fr} {w : World} (h : Rq 3 cellsF w (.slice p n cap) xs) : ∀ k x, xs[k]? = some x → ∃ b o, p = some ⟨b, o, none⟩ ∧ ∀ u, Bl w u → u.cell? ⟨b, o + k * 3, none⟩ = some (.int .i64 x.n) ∧ u.cell? ⟨b, o + k * 3 + 1, none⟩ = some (.int .i64 x.d) ∧ u.cell? ⟨b, o + k * 3 + 2, none⟩ = some (.bool x.bad) := by
  intro k x hk
  rcases h with ⟨_, _, _, h0, _⟩ | ⟨b, o, cc, e, _, hlt, HX⟩
  · rw [h0] at hk; simp at hk
  · cases e
    exact ⟨b, o, rfl, fun u hu => ⟨(bl_cell hu _ _ hlt).trans (HX k _ hk 0 _ rfl), (bl_cell hu _ _ hlt).trans (HX k _ hk 1 _ rfl), (bl_cell hu _ _ hlt).trans (HX k _ hk 2 _ rfl)⟩⟩
end Go.Proofs.YtljmggemdkfbiaaGreat
