/- A slice of enclosed numbers as an argument: opened. -/
import Derived.Test.YtfbioinmgchdcaaVeHN
import Derived.Test.YtfbioinmgchdcaaNum
import Derived.Deep.Slices
import Derived.ProofKit
import Derived.OpenShut
import Derived.Lib.SmallJoins
namespace Go.Proofs.Ytfbioinmgchdcaa
open Go.ChangeShapes Go.WideShapes Go.ChangeAt Go.RowKit Go.Joins Go.Deep
set_option linter.unusedVariables false

set_option maxRecDepth 1000000 in
theorem num_cells {H : Type} {enc : TypeId × Value → H} {W : World} {base : Nat} {spare : Nat → Bool} {held : Bool} {n : Nat} {cs : List Value} {y : DataW H × List MemPlace}
    (h : DataW.trod enc Try.prog W base spare held n 37 cs = some y) : ∃ a : En, cs = cellsN a := by
  obtain ⟨y0, y1, y2, y3, m, _, hl, h0, h1, h2, h3⟩ := trod_struct4 Try.underlying37 h
  rw [cellsNum] at hl
  match cs, hl with
  | [c0, c1, c2, c3], _ =>
    have hone : oneCellFields Try.prog (Try.prog.fieldsOf 37) = true := by kernel_rfl
    have k1 : Try.prog.cellsOf 3 = 1 := by kernel_rfl
    have k2 : Try.prog.cellsOf 4 = 1 := by kernel_rfl
    simp only [k1, k2, List.drop_zero, List.drop_succ_cons, List.take_succ_cons, List.take_zero] at h0 h1 h2 h3
    obtain ⟨x, e0, _, wx⟩ := DataW.trod_int Try.underlying3 h0
    obtain ⟨y, e1, _, wy⟩ := DataW.trod_int Try.underlying3 h1
    obtain ⟨z, e2, _, wz⟩ := DataW.trod_int Try.underlying3 h2
    obtain ⟨b, e3, _⟩ := DataW.trod_bool Try.underlying4 h3
    simp at e0 e1 e2 e3
    subst e0 e1 e2 e3
    exact ⟨⟨x, y, z, b⟩, rfl⟩
instance : Inhabited En := ⟨⟨0, 0, 0, false⟩⟩
set_option maxRecDepth 1000000 in
theorem open_nums {H : Type} {enc : TypeId × Value → H} {W : World} {b0 : Nat} {v : Value} {d : DataW H} {p : List MemPlace}
    (hv : Value.okWide Try.prog W .any b0 39 v) (h : DataW.Trod enc Try.prog W 0 (fun _ => true) true 39 v d p) : ∃ ns : List En, Rq 4 cellsN W v ns := by
  obtain ⟨a0, len, cap, rfl⟩ := okWide_slice Try.underlying39 hv
  obtain ⟨fuel, hf⟩ := h
  rcases open_slice Try.underlying39 hf with ⟨hcs, hx⟩ | ⟨a, len', cap', m, n, D, Pl, hcs, _, hl, hm, hmm, hx, hcell⟩
  · simp [Value.cells] at hcs
    obtain ⟨rfl, rfl, rfl⟩ := hcs
    exact ⟨[], .inl ⟨none, 0, rfl, rfl, fun _ => rfl⟩⟩
  · simp [Value.cells] at hcs
    obtain ⟨rfl, rfl, rfl⟩ := hcs
    simp only [if_true] at hmm
    subst hmm
    by_cases h0 : len = 0
    · subst h0
      exact ⟨[], .inl ⟨some a, m, rfl, rfl, nofun⟩⟩
    · rw [cellsNum] at hcell
      have each : ∀ i, i < len → ∃ e : En, W.cells? 0 (a.add (i * 4)) 4 = some (cellsN e) := fun i hi => by
        obtain ⟨cs', h1, h2⟩ := hcell i (by omega)
        obtain ⟨e, rfl⟩ := num_cells h2
        exact ⟨e, h1⟩
      obtain ⟨E, hE⟩ := choose_lt each
      have c00 := (World.cells?_some (hE 0 (by omega))).2.2 0 (by omega)
      obtain ⟨b, off, spot⟩ := a
      have hs : spot = none := by
        have : W.cell? ⟨b, off, spot⟩ = some (.int .i64 (E 0).v) := by simpa [Addr.add, cellsN] using c00
        exact World.cell?_spot this
      subst hs
      have hb : b < W.heap.size := by
        have : W.cell? ⟨b, off, none⟩ = some (.int .i64 (E 0).v) := by simpa [Addr.add, cellsN] using c00
        exact block_lt_of_cell this
      refine ⟨(List.range len).map E, .inr ⟨b, off, m, by simp, by simp; omega, hb, fun j x hj k u hu => ?_⟩⟩
      have hj2 : j < len := by have := (List.getElem?_eq_some_iff.1 hj).1; simpa using this
      rw [List.getElem?_map, List.getElem?_range hj2] at hj
      have hx' : E j = x := by simpa using hj
      subst hx'
      have hk : k < 4 := by have := (List.getElem?_eq_some_iff.1 hu).1; simpa [cellsN] using this
      have := (World.cells?_some (hE j hj2)).2.2 k hk
      rw [add_plain, add_plain, hu] at this
      exact this
end Go.Proofs.Ytfbioinmgchdcaa
