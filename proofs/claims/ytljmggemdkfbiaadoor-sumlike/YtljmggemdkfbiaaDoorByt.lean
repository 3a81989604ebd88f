/- A slice of bytes as an argument: opened. -/
import Derived.Test.YtljmggemdkfbiaaDoorVeR
import Derived.ProofKit
import Derived.OpenShut
namespace Go.Proofs.YtljmggemdkfbiaaDoor
open Go.ChangeShapes Go.WideShapes Go.ChangeAt Go.RowKit
set_option linter.unusedVariables false

/-- A byte's cells. -/
def cB (x : Nat) : List Value := [.int .u8 (x : Int)]
theorem cB_len (x : Nat) : (cB x).length = 1 := rfl
theorem cB_one (x : Nat) : ∀ u ∈ cB x, u.oneCell' = true := by
  intro u hu
  unfold cB at hu
  simp only [List.mem_cons, List.not_mem_nil, or_false] at hu
  rcases hu with rfl
  rfl
theorem Tryd.cellsByte : Tryd.prog.cellsOf 5 = 1 := by kernel_rfl
theorem byte_block_lt {W : World} {b o : Nat} {v : Value} (h : W.cell? ⟨b, o, none⟩ = some v) : b < W.heap.size := by
  rcases Nat.lt_or_ge b W.heap.size with h' | h'
  · exact h'
  · have : W.heap[b]? = none := Array.getElem?_eq_none h'
    simp [World.cell?, this] at h
set_option maxRecDepth 1000000 in
theorem open_bytes {H : Type} {enc : TypeId × Value → H} {W : World} {b0 : Nat} {v : Value} {d : DataW H} {p : List MemPlace}
    (hv : Value.okWide Tryd.prog W .any b0 22 v) (h : DataW.Trod enc Tryd.prog W 0 (fun _ => true) true 22 v d p) : ∃ xs : List Nat, Rq 1 cB W v xs ∧ (∀ x ∈ xs, x < 256) ∧ xs.length ≤ 9223372036854775807 := by
  obtain ⟨a0, len, cap, rfl⟩ := okWide_slice Tryd.underlying22 hv
  obtain ⟨fuel, hf⟩ := h
  rcases open_ints Tryd.underlying22 Tryd.underlying5 Tryd.cellsByte hf with ⟨hcs, hx⟩ | ⟨a, len', cap', zs, hcs, _, hl, hm, hz, hx, hcell, hwz⟩
  · simp [Value.cells] at hcs
    obtain ⟨rfl, rfl, rfl⟩ := hcs
    exact ⟨[], .inl ⟨none, 0, rfl, rfl, fun _ => rfl⟩, (fun n hn => by simp at hn), by simp⟩
  · simp [Value.cells] at hcs
    obtain ⟨rfl, rfl, rfl⟩ := hcs
    simp only [if_true] at hz
    have hb' : ∀ n ∈ zs, 0 ≤ n ∧ n ≤ 255 := fun n hn => bounds_u8 (hwz n hn)
    unfold maxLen at hm
    refine ⟨(zs.take len).map Int.toNat, ?_, fun x hx => ?_, by simp; omega⟩
    · by_cases h0 : len = 0
      · subst h0
        exact .inl ⟨some a, cap, rfl, by simp, nofun⟩
      · have c0 := hcell 0 (by omega)
        obtain ⟨b, off, rfl, hc⟩ := ints_at hcell (by omega)
        have hb : b < W.heap.size := by
          have := hc 0 (by omega)
          exact byte_block_lt this
        have hll : ((zs.take len).map Int.toNat).length = len := by simp; omega
        refine .inr ⟨b, off, cap, by rw [hll], by omega, hb, fun j x hj k u hu => ?_⟩
        rcases k with _ | k
        · simp [cB] at hu
          subst hu
          have hj2 := (List.getElem?_eq_some_iff.1 hj).1
          rw [hll] at hj2
          have := hc j (by omega)
          rw [List.getElem?_map, List.getElem?_take, if_pos hj2, List.getElem?_eq_getElem (by omega)] at hj
          simp only [Option.map_some, Option.some.injEq] at hj
          have e : zs.getD j 0 = zs[j] := by simp [List.getD, List.getElem?_eq_getElem (show j < zs.length by omega)]
          rw [e] at this
          have hz2 := hb' zs[j] (List.getElem_mem _)
          rw [← hj, Int.toNat_of_nonneg hz2.1]
          simpa using this
        · simp [cB] at hu
    · obtain ⟨n, hn, rfl⟩ := List.mem_map.1 hx
      have := hb' n (List.mem_of_mem_take hn)
      omega
end Go.Proofs.YtljmggemdkfbiaaDoor
