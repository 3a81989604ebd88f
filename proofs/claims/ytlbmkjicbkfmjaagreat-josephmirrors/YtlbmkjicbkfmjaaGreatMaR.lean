/- Contract of the document's Mul (layer 6). -/
import Derived.Test.YtlbmkjicbkfmjaaGreatMaH
namespace Go.Proofs.YtlbmkjicbkfmjaaGreat
open Go.RowKit
set_option linter.unusedSimpArgs false
set_option linter.unusedVariables false

theorem own_blI {w w' : World} {B n : Nat} {v : Value} {l : List Value} (h : w.ownsRow B 3 1 v n l) (k : Bl w w') : w'.ownsRow B 3 1 v n l := by
  refine ⟨h.1, ?_⟩
  rcases h.2 with hn | ⟨g, cap, cur, rfl, hb, hg, rest⟩
  · exact .inl hn
  · exact .inr ⟨g, cap, cur, rfl, hb, (Below.block k g (Array.getElem?_eq_some_iff.1 hg).1).trans hg, rest⟩
theorem newI_cells (w : World) (x : Int) (t : TypeId) : ∀ j u, (cellsI x)[j]? = some u → (w.alloc (.cells #[.int .i64 x] t)).cell? ((⟨w.heap.size, 0, none⟩ : Addr).add j) = some u := by
  intro j u hu
  unfold cellsI at hu
  rcases j with _ | j
  · simp at hu
    subst hu
    simp [go_sem, Addr.add]
  · simp at hu
end Go.Proofs.YtlbmkjicbkfmjaaGreat
