/- A slice of whole numbers as an argument: opened. -/
import Derived.Test.YtljmggemdkfbiaaGreatVeI
import Derived.ProofKit
import Derived.OpenShut
namespace Go.Proofs.YtljmggemdkfbiaaGreat
open Go.ChangeShapes Go.WideShapes Go.ChangeAt Go.RowKit
set_option linter.unusedVariables false

theorem Tryz.cellsInt : Tryz.prog.cellsOf 3 = 1 := by kernel_rfl
theorem cell_block_lt {W : World} {b o : Nat} {v : Value} (h : W.cell? ⟨b, o, none⟩ = some v) : b < W.heap.size := by
  rcases Nat.lt_or_ge b W.heap.size with h' | h'
  · exact h'
  · have : W.heap[b]? = none := Array.getElem?_eq_none h'
    simp [World.cell?, this] at h
set_option maxRecDepth 1000000 in
theorem open_row {H : Type} {enc : TypeId × Value → H} {W : World} {b0 : Nat} {v : Value} {d : DataW H} {p : List MemPlace}
    (hv : Value.okWide Tryz.prog W .any b0 22 v) (h : DataW.Trod enc Tryz.prog W 0 (fun _ => true) true 22 v d p) : ∃ ns : List Int, Rq 1 cI W v ns ∧ ∀ n ∈ ns, (Lit.int .i64 n).wf = true := by
  obtain ⟨a0, len, cap, rfl⟩ := okWide_slice Tryz.underlying22 hv
  obtain ⟨fuel, hf⟩ := h
  rcases open_ints Tryz.underlying22 Tryz.underlying3 Tryz.cellsInt hf with ⟨hcs, hx⟩ | ⟨a, len', cap', zs, hcs, _, hl, hm, hz, hx, hcell, hwz⟩
  · simp [Value.cells] at hcs
    obtain ⟨rfl, rfl, rfl⟩ := hcs
    exact ⟨[], .inl ⟨none, 0, rfl, rfl, fun _ => rfl⟩, fun n hn => by simp at hn⟩
  · simp [Value.cells] at hcs
    obtain ⟨rfl, rfl, rfl⟩ := hcs
    simp only [if_true] at hz
    refine ⟨zs.take len, ?_, fun n hn => hwz n (List.mem_of_mem_take hn)⟩
    by_cases h0 : len = 0
    · subst h0
      exact .inl ⟨some a, cap, rfl, by simp, nofun⟩
    · have c0 := hcell 0 (by omega)
      obtain ⟨b, off, rfl, hc⟩ := ints_at hcell (by omega)
      have hb : b < W.heap.size := by
        have := hc 0 (by omega)
        exact cell_block_lt this
      have hll : (zs.take len).length = len := by simp; omega
      refine .inr ⟨b, off, cap, by rw [hll], by omega, hb, fun j x hj k u hu => ?_⟩
      rcases k with _ | k
      · simp at hu
        subst hu
        have hj2 := (List.getElem?_eq_some_iff.1 hj).1
        have := hc j (by omega)
        rw [List.getElem?_take] at hj
        split at hj
        · have e : zs.getD j 0 = x := by simp [List.getD, hj]
          rw [e] at this
          simpa using this
        · cases hj
      · simp at hu
end Go.Proofs.YtljmggemdkfbiaaGreat
