/- Contracts of joseph's fits, Right, of enclosed numbers (layer 9). Written by genJo.py. -/
import Derived.Test.YtljmggemdkfbiaaGreatJo1
import Derived.Test.YtljmggemdkfbiaaGreatMaAN
namespace Go.Proofs.YtljmggemdkfbiaaGreat
open Go.RowKit
set_option linter.unusedSimpArgs false
set_option linter.unusedVariables false

set_option maxHeartbeats 1000000 in
theorem jFitsN (r c : Int) (p : Option Addr) (n cap : Nat) (k : Int) (w : World) :
    Calls Tryz.prog 141 #[mV r c p n cap, .int .i64 k] w fun e w' => e = .returned (.bool (fitJ r c n k)) ∧ Bl w w' := by
  obtain ⟨W, hW⟩ : ∃ W, W = w.alloc (.cells #[.int .i64 r, .int .i64 c, .slice p n cap] 48) := ⟨_, rfl⟩
  have b0 : Bl w W := by rw [hW]; exact (Bl.refl _).alloc _
  have mx0 : MBox W w.heap.size r c p n cap := by rw [hW]; exact MBox.new w _ _ _ _ _ _
  have HW := hideP hW
  by_cases h4 : k ≤ 4
  · obtain ⟨c0, c1, c2, f0, f1, f2, lt⟩ := id mx0
    rw [hW] at c0 c1 c2
    clear hW
    go_enter Tryz.func141, Tryz.ntmps141
    go_wp2_with fail
    rw [← HW.out]
    refine (mRightN _ _ _ _ _ _).mono ?_
    rintro e w1 ⟨rfl, h1⟩
    clear c0 c1 c2 f0 f1 f2 lt
    obtain ⟨c0, c1, c2, f0, f1, f2, lt⟩ := mx0.later h1
    cases hf : fitB r c n with
    | false =>
      go_wp2
      go_ret
      exact ⟨by unfold fitJ; rw [hf]; simp, b0.trans h1⟩
    | true =>
      by_cases e1 : r = k
      · subst e1
        by_cases e2 : c = r
        · subst e2
          go_wp2
          go_ret
          exact ⟨by unfold fitJ; rw [hf]; simp [h4], b0.trans h1⟩
        · have e2' : (c == r) = false := by simp; omega
          go_wp2
          go_ret
          exact ⟨by unfold fitJ; rw [hf, e2']; simp, b0.trans h1⟩
      · have e1' : (r == k) = false := by simp; omega
        go_wp2
        go_ret
        exact ⟨by unfold fitJ; rw [hf, e1']; simp, b0.trans h1⟩
  · have h4' : ¬ k ≤ 4 := h4
    clear hW
    go_enter Tryz.func141, Tryz.ntmps141
    go_wp2
    go_ret
    rw [← HW.out]
    exact ⟨by unfold fitJ; rw [decide_eq_false (by omega)]; rfl, b0⟩
set_option maxHeartbeats 1000000 in
theorem jRightN (px : Option Addr) (nx cx : Nat) (r c : Int) (p : Option Addr) (n cap : Nat) (w : World) :
    Calls Tryz.prog 106 #[sJ px nx cx r c p n cap] w fun e w' => e = .returned (.bool (fitJ r c n nx)) ∧ Bl w w' := by
  obtain ⟨W, hW⟩ : ∃ W, W = w.alloc (.cells #[.slice px nx cx, .int .i64 r, .int .i64 c, .slice p n cap] 134) := ⟨_, rfl⟩
  have b0 : Bl w W := by rw [hW]; exact (Bl.refl _).alloc _
  have HW := hideP hW
  clear hW
  go_enter Tryz.func106, Tryz.ntmps106
  go_wp2_with fail
  rw [← HW.out]
  refine (jFitsN _ _ _ _ _ _ _).mono ?_
  rintro e w1 ⟨rfl, h1⟩
  go_wp2
  go_ret
  exact ⟨rfl, b0.trans h1⟩
end Go.Proofs.YtljmggemdkfbiaaGreat
