/- Is, of what is no square; TriTells' closures; whether all above the diagonal is 0, row by row. Written by genTt.py. -/
import Derived.Test.YtbfdkahbnfpabaaTrQ
namespace Go.Proofs.Ytbfdkahbnfpabaa
open Go.RowKit
set_option linter.unusedSimpArgs false
set_option linter.unusedVariables false

theorem tIsF_no (r c : Int) (p : Option Addr) (n cap K : Nat) (w : World) (hsq : sqB r c n = false) :
    Calls Try.prog 13 #[mV r c p n cap, .func (.func K) #[] #[]] w fun e w' => e = .returned (.bool false) ∧ Bl w w' := by
  obtain ⟨V, hV⟩ : ∃ V, V = ((w.alloc (.cells #[.int .i64 r, .int .i64 c, .slice p n cap] 27)).alloc (.cells #[.func (.func K) #[] #[]] 35)).alloc (.cells #[.bool false] 4) := ⟨_, rfl⟩
  have hBV : Bl w V := by rw [hV]; exact (((Bl.refl _).alloc _).alloc _).alloc _
  have br : Boxed V (w.heap.size + 1 + 1) 4 (.bool false) := by
    rw [hV]
    have := Boxed.new ((w.alloc (.cells #[.int .i64 r, .int .i64 c, .slice p n cap] 27)).alloc (.cells #[.func (.func K) #[] #[]] 35)) 4 (.bool false)
    simpa using this
  have HV := hideP hV
  clear hV
  go_enter Try.func13, Try.ntmps13
  go_wp2_with fail
  rw [← HV.out]
  refine (tSquareF _ _ _ _ _ _).mono ?_
  rintro e w1 ⟨rfl, h1⟩
  rw [hsq]
  have br1 := boxed_bl br h1
  have bc := br1.cell
  have fc := br1.frozen
  go_wp2
  simp [bodyPost, results, Try.results13, go_sem, bc]
  exact (hBV.trans h1).set (p := ⟨w.heap.size + 1 + 1, 0, none⟩) (by simp; omega) _
theorem yes1_any (x : Fr) (w : World) : Calls Try.prog 14 #[frV x] w fun e w' => e = .returned (.bool true) ∧ Bl w w' := by
  go_enter Try.func14, Try.ntmps14
  go_wp2
  go_ret
  exact ⟨rfl, (Bl.refl _).alloc _⟩
theorem zero2_any (x : Fr) (w : World) : Calls Try.prog 17 #[frV x] w fun e w' => e = .returned (.bool (zeroN x)) ∧ Bl w w' := by
  unfold zeroN
  go_enter Try.func17, Try.ntmps17
  go_wp2
  go_ret
  exact ⟨rfl, (Bl.refl _).alloc _⟩
/-- Whether what is right of the diagonal is 0, ahead of column k; in the first rows. -/
def rowB7 (f : Nat → Nat → Int) (i k : Nat) : Bool := (List.range k).all fun t => decide (t ≤ i) || (f i t == 0)
def lowB7 (f : Nat → Nat → Int) (n j : Nat) : Bool := (List.range j).all fun i => rowB7 f i n
theorem rowB7_start (f : Nat → Nat → Int) (i : Nat) : rowB7 f i (i + 1) = true := by
  unfold rowB7
  rw [List.all_eq_true]
  intro t ht
  rw [Bool.or_eq_true]
  exact .inl (by have := List.mem_range.1 ht; simp; omega)
theorem rowB7_succ (f : Nat → Nat → Int) {i k : Nat} (h : i < k) : rowB7 f i (k + 1) = (rowB7 f i k && (f i k == 0)) := by
  unfold rowB7
  rw [List.range_succ, List.all_append]
  have : decide (k ≤ i) = false := by simp; omega
  simp [this]
theorem lowB7_succ (f : Nat → Nat → Int) (n j : Nat) : lowB7 f n (j + 1) = (lowB7 f n j && rowB7 f j n) := by
  unfold lowB7
  rw [List.range_succ, List.all_append]
  simp
theorem lowB7_above (f : Nat → Nat → Int) (n : Nat) : aboveB n (fun i k => itF (f i k)) zeroN = lowB7 f n n := rfl
theorem clrF_it (f : Nat → Nat → Int) (i k : Nat) : clrF (fun i k => itF (f i k)) i k = itF (clrI f i k) := by
  unfold clrF clrI
  split <;> rfl
end Go.Proofs.Ytbfdkahbnfpabaa
