/- Contracts of root's fits, Right and Cover, of fractions (layer 10). Written by genRo.py. -/
import Derived.Test.YtljmggemdkfbiaaGreatJoBF
import Derived.Test.YtljmggemdkfbiaaGreatRo0
namespace Go.Proofs.YtljmggemdkfbiaaGreat
open Go.RowKit
set_option linter.unusedSimpArgs false
set_option linter.unusedVariables false

set_option maxHeartbeats 1000000 in
theorem rFitsF (px : Option Addr) (nx cx : Nat) (r c : Int) (p : Option Addr) (n cap : Nat) (w : World) :
    Calls Tryz.prog 64 #[.slice px nx cx, mV r c p n cap] w fun e w' => e = .returned (.bool (fitJ r c n nx)) ∧ Bl w w' := by
  obtain ⟨W, hW⟩ : ∃ W, W = w.alloc (.cells #[.int .i64 r, .int .i64 c, .slice p n cap] 30) := ⟨_, rfl⟩
  have b0 : Bl w W := by rw [hW]; exact (Bl.refl _).alloc _
  have m0 : MBox W w.heap.size r c p n cap := by rw [hW]; exact MBox.new w _ _ _ _ _ _
  have HW := hideP hW
  obtain ⟨c0, c1, c2, f0, f1, f2, lt⟩ := id m0
  rw [hW] at c0 c1 c2
  have SB := fun u : World => (by kernel_rfl : (Instr.build 36 #[(0, .slice px nx cx), (1, mV r c p n cap)]).run Tryz.prog u = .ok (sJ px nx cx r c p n cap) u)
  clear hW
  go_enter Tryz.func64, Tryz.ntmps64
  go_wp2_with fail
  rw [← HW.out]
  refine (jRightF px nx cx r c p n cap W).mono ?_
  rintro e w1 ⟨rfl, h1⟩
  go_wp2
  go_ret
  exact ⟨rfl, b0.trans h1⟩
set_option maxHeartbeats 1000000 in
theorem rRightF (px : Option Addr) (nx cx : Nat) (r c : Int) (p : Option Addr) (n cap : Nat) (w : World) :
    Calls Tryz.prog 30 #[sJ px nx cx r c p n cap] w fun e w' => e = .returned (.bool (fitJ r c n nx)) ∧ Bl w w' := by
  obtain ⟨W, hW⟩ : ∃ W, W = w.alloc (.cells #[.slice px nx cx, .int .i64 r, .int .i64 c, .slice p n cap] 63) := ⟨_, rfl⟩
  have b0 : Bl w W := by rw [hW]; exact (Bl.refl _).alloc _
  have s0 : SBox W w.heap.size px nx cx r c p n cap := by rw [hW]; exact SBox.new w _ _ _ _ _ _ _ _ _
  have HW := hideP hW
  obtain ⟨c0, c1, c2, c3, _, _, _, _, _⟩ := id s0
  rw [hW] at c0 c1 c2 c3
  clear hW
  go_enter Tryz.func30, Tryz.ntmps30
  go_wp2_with fail
  rw [← HW.out]
  refine (rFitsF px nx cx r c p n cap W).mono ?_
  rintro e w1 ⟨rfl, h1⟩
  go_wp2
  go_ret
  exact ⟨rfl, b0.trans h1⟩
set_option maxRecDepth 100000 in
set_option maxHeartbeats 2000000 in
theorem rCoverF (n : Nat) (px : Option Addr) (cx : Nat) (p : Option Addr) (N cap : Nat) (f : Nat → Nat → Fr) (w : World) (h : Mx 3 cellsF w n n p N cap f) (h4 : n ≤ 4) :
    Calls Tryz.prog 28 #[sJ px n cx n n p N cap] w fun e w' => ∃ p' c', e = .returned (mV n n p' N c') ∧ Mx 3 cellsF w' n n p' N c' (squareJ kdF n f) ∧ Bl w w' := by
  have hfit := fitJ_dim h.1 h.2.1 h4
  obtain ⟨W, hW⟩ : ∃ W, W = (w.alloc (.cells #[.slice px n cx, .int .i64 n, .int .i64 n, .slice p N cap] 63)).alloc (.cells #[.int .i64 0, .int .i64 0, .slice none 0 0] 30) := ⟨_, rfl⟩
  have b0 : Bl w W := by rw [hW]; exact ((Bl.refl _).alloc _).alloc _
  have s0 : SBox W w.heap.size px n cx n n p N cap := by rw [hW]; exact (SBox.new w _ _ _ _ _ _ _ _ _).later ((Bl.refl _).alloc _)
  have z0 : MBox W (w.heap.size + 1) 0 0 none 0 0 := by rw [hW]; have := MBox.new (w.alloc (.cells #[.slice px n cx, .int .i64 n, .int .i64 n, .slice p N cap] 63)) 0 0 none 0 0 30; rw [World.size_alloc] at this; exact this
  have hs : W.heap.size = w.heap.size + 1 + 1 := by rw [hW]; simp
  have HM := hideP h
  have HW := hideP hW
  obtain ⟨c0, c1, c2, c3, _, _, _, _, _⟩ := id s0
  rw [hW] at c0 c1 c2 c3
  clear hW h
  go_enter Tryz.func28, Tryz.ntmps28
  go_wp2_with fail
  try simp only [World.size_alloc]
  rw [← HW.out]
  refine (rRightF px n cx n n p N cap W).mono ?_
  rintro e w1 ⟨rfl, h1⟩
  rw [hfit]
  clear c0 c1 c2 c3
  obtain ⟨c0, c1, c2, c3, _, _, _, _, _⟩ := s0.later h1
  go_wp2_with fail
  refine (tSqF n p N cap f w1 (HM.out.later (b0.trans h1))).mono ?_
  rintro e w2 ⟨p2, c2', rfl, ⟨hP, hF⟩, h2⟩
  obtain ⟨d0, d1, d2, g0, g1, g2, _⟩ := z0.later (h1.trans (h2.trans ((Bl.refl _).alloc (.cells #[.int .i64 n, .int .i64 n, .slice p2 N c2'] 30))))
  have k2 := MBox.new w2 n n p2 N c2' 30
  obtain ⟨W2, hW2⟩ : ∃ W2, W2 = w2.alloc (.cells #[.int .i64 n, .int .i64 n, .slice p2 N c2'] 30) := ⟨_, rfl⟩
  have b2 : Bl w2 W2 := by rw [hW2]; exact (Bl.refl _).alloc _
  have B2 : Bl w W2 := (b0.trans h1).trans (h2.trans b2)
  have HP := hideP (Mx.later hP b2)
  have HF := hideP hF
  have hs2 : w1.heap.size ≤ W2.heap.size := (h2.trans b2).size
  have hs1 := h1.size
  obtain ⟨x0, x1, x2, _, _, _, _⟩ := id k2
  have HW2 := hideP hW2
  clear hP hF c0 c1 c2 c3 hW2
  go_wp2
  simp [bodyPost, results, Tryz.results28, go_sem, d0, d1, d2, x0, x1, x2, g0, g1, g2]
  exact ⟨p2, c2', by simp, by rw [← HW2.out]; exact mx_ne7 HP.out (fun b hb => by have := HF.out b hb; omega) _ _ _, by rw [← HW2.out]; exact Bl.put3 B2 (Nat.le_succ _) _ _ _⟩
end Go.Proofs.YtljmggemdkfbiaaGreat
