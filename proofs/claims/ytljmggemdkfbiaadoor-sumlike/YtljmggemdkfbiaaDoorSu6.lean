/- Rows of noughts, four bytes in a row (layer 11). -/
import Derived.Test.YtljmggemdkfbiaaDoorSu5
import Derived.Test.YtljmggemdkfbiaaDoorRegG
import Derived.Shelf.Abstract
namespace Go.Proofs.YtljmggemdkfbiaaDoor
open Go.RowKit
set_option linter.unusedSimpArgs false
set_option linter.unusedVariables false

theorem flatB_map (xs : List Nat) : xs.flatMap cB = xs.map fun (x : Nat) => (Value.int .u8 (x : Int)) := by
  induction xs with
  | nil => rfl
  | cons x xs ih => rw [List.flatMap_cons, ih]; rfl
theorem make_zeroB (n : Nat) (hn : n ≤ 100000) (u : World) : ∃ u', (Instr.makeSlice 22 (.int .i64 n) (.int .i64 n)).run Tryd.prog u = .ok (.slice (some ⟨u.heap.size, 0, none⟩) n n) u' ∧ OwnB u u' (.slice (some ⟨u.heap.size, 0, none⟩) n n) (List.replicate n 0) := by
  obtain ⟨i0, hi, hz0, hz1, hz2⟩ := info_B_ex
  obtain ⟨u', h1, h2, h3⟩ := run_makeSlice_full (P := Tryd.prog) (w := u) u.heap.size 22 5 i0 (.int .u8 0) 1 Tryd.underlying22 hi hz0 hz1 .i64 .i64 n (by omega) (by rw [hz2]; omega) (by unfold maxLen; omega) (Nat.le_refl _)
  refine ⟨u', h1, (Bl.refl u).grown h3 (Nat.le_refl _) (fun k e => by cases e), ?_⟩
  have e : (madeCells (Value.cells (.int .u8 0)) (n * 1)).toList = (List.replicate n 0).flatMap cB := by
    rw [flatB_map, Nat.mul_one, List.map_replicate]
    exact toList_madeCells_one _ _
  rw [e] at h2
  rw [List.length_replicate]
  exact h2
theorem Tryd.build4B (b0 b1 b2 b3 : Int) (u : World) : (Instr.buildSlice 22 4 #[(0, .int .u8 b0), (1, .int .u8 b1), (2, .int .u8 b2), (3, .int .u8 b3)]).run Tryd.prog u = .ok (.slice (some ⟨u.heap.size, 0, none⟩) 4 4) (u.alloc (.cells #[.int .u8 b0, .int .u8 b1, .int .u8 b2, .int .u8 b3] 5)) := by kernel_rfl
theorem rq_four (b0 b1 b2 b3 : Nat) (u : World) : Rq 1 cB (u.alloc (.cells #[.int .u8 (b0 : Int), .int .u8 (b1 : Int), .int .u8 (b2 : Int), .int .u8 (b3 : Int)] 5)) (.slice (some ⟨u.heap.size, 0, none⟩) 4 4) [b0, b1, b2, b3] := by
  refine .inr ⟨u.heap.size, 0, 4, rfl, by simp, by simp, fun j x hj k v hv => ?_⟩
  rcases k with _ | k
  · simp [cB] at hv
    subst hv
    have hj4 := (List.getElem?_eq_some_iff.1 hj).1
    simp at hj4
    rcases (by omega : j = 0 ∨ j = 1 ∨ j = 2 ∨ j = 3) with rfl | rfl | rfl | rfl <;> (simp at hj; subst hj; rw [cell_marked]; rfl)
  · simp [cB] at hv
theorem wrap_u8 (n k : Nat) : IntKind.u8.wrap ((n : Int) / ((k : Nat) : Int)) = ((n / k % 256 : Nat) : Int) := by
  rw [IntKind.wrap_u8']
  omega
theorem wrap_u8_0 (n : Nat) : IntKind.u8.wrap (n : Int) = ((n % 256 : Nat) : Int) := by
  rw [IntKind.wrap_u8']
  omega
theorem enter_wpS {F : Fence} {n : Nat} {P : Program} {o : Oper} {a : Act} {w : World} {K : Act → World → Prop} {Q : Exit → Act → World → Prop} (f : Nat) (args : Array Value) (hd : ∀ c, o.op ≠ .defer c) (ha : ∀ g, o.about P w a.eval = some g → F.fn g)
    (hr : (execOp a.eval o).run P w = .ok (.enter f args) w) (h1 : F.depth.isSome = true → 1 ≤ n) {R : Ending → World → Prop} (hc : CallsIn F (n - 1) P f args w R) (hK : ∀ e w', R e w' → ∃ v, e = .returned v ∧ K (a.put o.dst v) w') : Oper.wpIn F n P o a w K Q := by
  unfold Oper.wpIn
  refine ⟨ha, ?_⟩
  rw [Oper.semAt_plain F _ _ hd, hr, Oper.uponIn_enter]
  refine ⟨h1, hc.mono ?_⟩
  intro e w' h
  obtain ⟨v, rfl, h2⟩ := hK e w' h
  exact h2
theorem residue_at {S : Nat} (hS : S < 4294967296) : sumFrom (S ^^^ 4294967295) [S % 256, S / 256 % 256, S / 65536 % 256, S / 16777216 % 256] ^^^ 4294967295 = sumOf [0, 0, 0, 0] := by
  have hc : S ^^^ 4294967295 < 4294967296 := xor_lt32 hS (by omega)
  have h := sum_residue hc
  rw [Nat.xor_assoc, Nat.xor_self, Nat.xor_zero] at h
  rw [h]
  rfl
end Go.Proofs.YtljmggemdkfbiaaDoor
