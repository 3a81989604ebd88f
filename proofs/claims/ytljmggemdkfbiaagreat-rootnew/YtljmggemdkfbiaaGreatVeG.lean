/- What is done of all pairs of two rows: what holds whatever their numbers (layer 5). -/
import Derived.Test.YtljmggemdkfbiaaGreatVeR
import Derived.Test.YtljmggemdkfbiaaGreatPhaseIn
import Derived.RangeFuncBound
import Derived.RangeFuncCalls
import Derived.RangeFuncLeaves
namespace Go.Proofs.YtljmggemdkfbiaaGreat
open Go.RowKit
set_option linter.unusedSimpArgs false
set_option linter.unusedVariables false

/-- What is done of all pairs. -/
def opL {α : Type} (op : α → α → α) (pre : List (α × α)) : List α := pre.map fun p => op p.1 p.2
theorem opL_snoc {α : Type} (op : α → α → α) (pre : List (α × α)) (x : α × α) : opL op (pre ++ [x]) = opL op pre ++ [op x.1 x.2] := by simp [opL]
theorem opL_zip {α : Type} (op : α → α → α) (xs ys : List α) (m : Nat) (h : m = min xs.length ys.length) : opL op ((xs.take m).zip (ys.take m)) = List.zipWith op xs ys := by
  subst h
  induction xs generalizing ys with
  | nil => simp [opL]
  | cons x xs ih =>
    cases ys with
    | nil => simp [opL]
    | cons y ys =>
      have := ih ys
      simp only [opL, List.length_cons] at this ⊢
      rw [show min (xs.length + 1) (ys.length + 1) = min xs.length ys.length + 1 by omega]
      simp [List.take_succ_cons, this]
theorem boxed_bl {w w' : World} {B : Nat} {t : TypeId} {v : Value} (h : Boxed w B t v) (k : Bl w w') : Boxed w' B t v := (Below.block k B h.lt).trans h
theorem span_b {lo hi : Nat} {w : World} (hh : hi ≤ w.heap.size) (W : World) (l : Nat) (o o' : Obj) (hl : w.heap.size ≤ l) (h : W.heap[l]? = some o) (_ : o.isCells = false) (_ : o.isWalk = false) : Span lo hi W (W.putObj l o') :=
  ⟨by simp [World.putObj], fun k _ h2 => World.putObj_heap_other (by omega)⟩
theorem Bl.keeps {w w' : World} (B : Nat) (h : Bl w w') : KeepsFrom B w w' := by
  refine ⟨h.size, fun k o h1 h2 h3 => ?_⟩
  exact (Below.block h k (Array.getElem?_eq_some_iff.1 h2).1).trans h2
/-- Behind an append to a row that a variable holds, and the store of what comes of it. -/
theorem boxed_appended {u w5 : World} {n₀ B : Nat} {t e : TypeId} {size : Nat} {v v' : Value} {k m : Nat} {xs ys : List Value}
    (hv : Boxed u B t v) (hte : t ≠ e) (hrow : u.ownsRow n₀ e size v k xs) (hn₀ : n₀ ≤ u.heap.size) (hB : n₀ ≤ B)
    (hown' : w5.ownsRow n₀ e size v' m ys) (hgrow : u.grownBy w5 v.ownBlock) :
    Boxed w5 B t v ∧ Boxed (w5.setCell ⟨B, 0, none⟩ v') B t v' ∧ (w5.setCell ⟨B, 0, none⟩ v').ownsRow n₀ e size v' m ys ∧ KeepsOthers u (w5.setCell ⟨B, 0, none⟩ v') ∧ Below n₀ u (w5.setCell ⟨B, 0, none⟩ v') := by
  have hv1 : Boxed w5 B t v := hv.kept hgrow (hv.not_row hte hrow)
  refine ⟨hv1, hv1.set v', hown'.kept (grownBy_setCell' w5 B v') (.inr (hv1.not_row hte hown').symm), ?_, ?_⟩
  · refine (KeepsOthers.of_grownBy hgrow fun j o ej hj => ?_).trans (KeepsOthers.setCell _ _ _)
    rcases hrow.2 with ⟨rfl, _⟩ | ⟨g, cap, cur, rfl, _, hgb, _⟩
    · simp [Value.ownBlock] at ej
    · obtain rfl : g = j := by simpa [Value.ownBlock] using ej
      rw [hgb] at hj; cases hj; rfl
  · exact ((Below.refl n₀ u).grown hgrow hn₀ (fun j ej => (hrow.lt j ej).1)).setCell (p := ⟨B, 0, none⟩) hB v'
/-- Of what lies elsewhere nothing has turned. -/
theorem span_appended {W u w5 : World} {lo hi R : Nat} {v v' : Value} (hB : Bl W u) (hh : hi ≤ W.heap.size) (hg : ∀ g, v.ownBlock = some g → g < lo ∨ hi ≤ g) (hgrow : u.grownBy w5 v.ownBlock) (hR : R < lo) : Span lo hi W (w5.setCell ⟨R, 0, none⟩ v') := by
  refine ⟨by have := hB.size; have := hgrow.size; simp; omega, fun k h1 h2 => ?_⟩
  have e1 : (w5.setCell ⟨R, 0, none⟩ v').heap[k]? = w5.heap[k]? := Below.heap_setCell _ _ _ k (by show k ≠ R; omega)
  have e2 : w5.heap[k]? = u.heap[k]? := hgrow.block k (by have := hB.size; omega) (fun e => by rcases hg k e.symm with h | h <;> omega)
  exact (e1.trans e2).trans (Below.block hB k (by omega))
end Go.Proofs.YtljmggemdkfbiaaGreat
