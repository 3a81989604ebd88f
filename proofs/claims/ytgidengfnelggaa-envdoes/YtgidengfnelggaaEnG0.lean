/- EnvDoes's row of five numbers. -/
import Derived.Test.YtgidengfnelggaaEn1
import Derived.Deep.RegionHeld3
import Derived.Deep.MidRow
namespace Go.Proofs.Ytgidengfnelggaa
open Go.RowKit
set_option linter.unusedSimpArgs false
set_option linter.unusedVariables false

/-- What a row of five holds before it is filled. -/
def zc (i : Nat) : Value := if i % 4 = 3 then .bool false else .int .i64 0
/-- A row of five that is laid, and not yet filled. -/
structure Arr (w : World) (blk : Nat) : Prop where
  c : ∀ i, i < 20 → w.cell? ⟨blk, i, none⟩ = some (zc i)
  f : ∀ i, i < 20 → w.frozen? ⟨blk, i, none⟩ = false
  lt : blk < w.heap.size
theorem Arr.later {w w' : World} {blk : Nat} (q : Arr w blk) (h : Bl w w') : Arr w' blk :=
  ⟨fun i hi => by rw [bl_cell h _ _ q.lt]; exact q.c i hi, fun i hi => by rw [bl_froz h _ _ q.lt]; exact q.f i hi, by have := Below.size h; have := q.lt; omega⟩
theorem Arr.alloc (u : World) : Arr (u.alloc (.cells #[.int .i64 0, .int .i64 0, .int .i64 0, .bool false, .int .i64 0, .int .i64 0, .int .i64 0, .bool false, .int .i64 0, .int .i64 0, .int .i64 0, .bool false, .int .i64 0, .int .i64 0, .int .i64 0, .bool false, .int .i64 0, .int .i64 0, .int .i64 0, .bool false] 26)) u.heap.size := by
  refine ⟨fun i hi => ?_, fun i hi => ?_, by simp⟩
  · rcases (by omega : i = 0 ∨ i = 1 ∨ i = 2 ∨ i = 3 ∨ i = 4 ∨ i = 5 ∨ i = 6 ∨ i = 7 ∨ i = 8 ∨ i = 9 ∨ i = 10 ∨ i = 11 ∨ i = 12 ∨ i = 13 ∨ i = 14 ∨ i = 15 ∨ i = 16 ∨ i = 17 ∨ i = 18 ∨ i = 19) with rfl | rfl | rfl | rfl | rfl | rfl | rfl | rfl | rfl | rfl | rfl | rfl | rfl | rfl | rfl | rfl | rfl | rfl | rfl | rfl <;> simp [go_sem, zc]
  · simp [go_sem]
theorem arr_new {W u w' : World} (hW : Bl W u) (h : Bl (u.alloc (.cells #[.int .i64 0, .int .i64 0, .int .i64 0, .bool false, .int .i64 0, .int .i64 0, .int .i64 0, .bool false, .int .i64 0, .int .i64 0, .int .i64 0, .bool false, .int .i64 0, .int .i64 0, .int .i64 0, .bool false, .int .i64 0, .int .i64 0, .int .i64 0, .bool false] 26)) w') : Arr w' u.heap.size ∧ W.heap.size ≤ u.heap.size := ⟨(Arr.alloc u).later h, Below.size hW⟩
theorem arr_newd {W w' : World} (h : Bl (World.drew (W.alloc (.cells #[.int .i64 0, .int .i64 0, .int .i64 0, .bool false, .int .i64 0, .int .i64 0, .int .i64 0, .bool false, .int .i64 0, .int .i64 0, .int .i64 0, .bool false, .int .i64 0, .int .i64 0, .int .i64 0, .bool false, .int .i64 0, .int .i64 0, .int .i64 0, .bool false] 26))) w') : Arr w' W.heap.size ∧ W.heap.size ≤ W.heap.size := ⟨(Arr.alloc W).later (((Bl.refl _).drew).trans h), Nat.le_refl _⟩
theorem arr_newe {W w' : World} (h : Bl (W.drew.alloc (.cells #[.int .i64 0, .int .i64 0, .int .i64 0, .bool false, .int .i64 0, .int .i64 0, .int .i64 0, .bool false, .int .i64 0, .int .i64 0, .int .i64 0, .bool false, .int .i64 0, .int .i64 0, .int .i64 0, .bool false, .int .i64 0, .int .i64 0, .int .i64 0, .bool false] 26)) w') : Arr w' W.heap.size ∧ W.heap.size ≤ W.heap.size := ⟨(Arr.alloc W.drew).later h, Nat.le_refl _⟩
theorem Arr.there {w : World} {blk : Nat} (q : Arr w blk) : w.there blk 0 20 := fun j hj => by
  rw [Nat.zero_add, q.c j hj, q.f j hj]; exact ⟨rfl, rfl⟩
theorem bl_setCells {a w : World} (h : Bl a w) {blk : Nat} (hb : a.heap.size ≤ blk) (o : Nat) (vs : List Value) : Bl a (w.setCells blk o vs) := by
  induction vs generalizing w o with
  | nil => exact h
  | cons v vs ih => exact ih (Bl.set h hb v) (o + 1)
end Go.Proofs.Ytgidengfnelggaa
