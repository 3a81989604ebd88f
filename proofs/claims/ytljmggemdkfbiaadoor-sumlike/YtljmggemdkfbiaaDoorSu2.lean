/- Layer 11 (sum): awake; SumOf. -/
import Derived.Test.YtljmggemdkfbiaaDoorSu1
import Derived.Lib.SlBytesConst
namespace Go.Proofs.YtljmggemdkfbiaaDoor
open Go.RowKit
set_option linter.unusedSimpArgs false
set_option linter.unusedVariables false

theorem cell_marked (w : World) (C : Array Value) (t : TypeId) (f : Nat × Nat) (k : Nat) : (w.alloc (.cells C t f)).cell? ⟨w.heap.size, k, none⟩ = C[k]? := by
  simp only [World.cell?, World.alloc, Array.getElem?_push, if_true]
  simp
def C9 : Array Value := #[.int .u8 49, .int .u8 50, .int .u8 51, .int .u8 52, .int .u8 53, .int .u8 54, .int .u8 55, .int .u8 56, .int .u8 57]
theorem rq_bytes9 (w : World) (t : TypeId) : Rq 1 cB (w.alloc (.cells C9 t (C9.size, C9.size + 1))) (.slice (some ⟨w.heap.size, 0, none⟩) 9 9) [49, 50, 51, 52, 53, 54, 55, 56, 57] := by
  refine .inr ⟨w.heap.size, 0, 9, rfl, by simp, by simp, fun j x hj k u hu => ?_⟩
  rcases k with _ | k
  · simp [cB] at hu
    subst hu
    have hj9 := (List.getElem?_eq_some_iff.1 hj).1
    simp at hj9
    rcases (by omega : j = 0 ∨ j = 1 ∨ j = 2 ∨ j = 3 ∨ j = 4 ∨ j = 5 ∨ j = 6 ∨ j = 7 ∨ j = 8) with rfl | rfl | rfl | rfl | rfl | rfl | rfl | rfl | rfl <;> (simp at hj; subst hj; rw [cell_marked]; rfl)
  · simp [cB] at hu
theorem rq_none (w : World) : Rq 1 cB w (.slice none 0 0) [] := .inl ⟨none, 0, rfl, rfl, fun _ => rfl⟩
set_option maxRecDepth 100000 in
set_option maxHeartbeats 1000000 in
theorem awake11_any (w : World) (ht : HalfTab w) :
    Calls Tryd.prog 8 #[] w fun e w' => e = .returned (.bool true) ∧ Bl w w' := by
  obtain ⟨W, hW⟩ : ∃ W, W = w.alloc (.cells C9 5 (C9.size, C9.size + 1)) := ⟨_, rfl⟩
  have b0 : Bl w W := by rw [hW]; exact (Bl.refl _).alloc _
  have r0 : Rq 1 cB W (.slice (some ⟨w.heap.size, 0, none⟩) 9 9) [49, 50, 51, 52, 53, 54, 55, 56, 57] := by rw [hW]; exact rq_bytes9 w _
  have htW := ht.later b0
  have cv := hideP (Lib.run_convert_bytes_const (P := Tryd.prog) w 22 5 C9 9 9 Tryd.underlying22 Tryd.underlying5)
  rw [← hW] at cv
  have A1 := hideP (of_any _ _ W r0 (by decide) (by decide) htW)
  rw [sum_example] at A1
  have A2 := hideP (of_any _ _ W (rq_none W) (by decide) (by decide) htW)
  rw [show sumOf [] = 0 from rfl] at A2
  have HB := hideP b0
  clear b0 r0 htW ht
  have HW := hideP hW
  clear hW
  go_enter Tryd.func8, Tryd.ntmps8
  go_wp2_with fail
  have cv2 := cv.out
  rw [show C9 = #[.int .u8 49, .int .u8 50, .int .u8 51, .int .u8 52, .int .u8 53, .int .u8 54, .int .u8 55, .int .u8 56, .int .u8 57] from rfl] at cv2
  rw [cv2]
  clear cv2
  go_wp2_with fail
  refine A1.out.mono ?_
  rintro e w1 ⟨rfl, rfl⟩
  go_wp2_with fail
  refine A2.out.mono ?_
  rintro e w1 ⟨rfl, rfl⟩
  go_wp2
  go_ret
  exact ⟨rfl, HB.out⟩
end Go.Proofs.YtljmggemdkfbiaaDoor
