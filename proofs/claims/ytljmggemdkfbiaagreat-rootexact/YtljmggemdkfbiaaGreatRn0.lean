/- Root's states of whole numbers as fractions (layer 10): covers; what does not go together. -/
import Derived.Test.YtljmggemdkfbiaaGreatRoNF
import Derived.Test.YtljmggemdkfbiaaGreatRoEF
import Derived.Test.YtljmggemdkfbiaaGreatTrQ
import Derived.Test.YtljmggemdkfbiaaGreatTrL
import Derived.Test.YtljmggemdkfbiaaGreatMaS
namespace Go.Proofs.YtljmggemdkfbiaaGreat
open Go.RowKit
set_option linter.unusedSimpArgs false
set_option linter.unusedVariables false

theorem Tryz.buildM0F (u : World) : (Instr.build 30 #[]).run Tryz.prog u = .ok (mV 0 0 none 0 0) u := by kernel_rfl
set_option maxRecDepth 100000 in
set_option maxHeartbeats 2000000 in
theorem rCoverF_no (px : Option Addr) (nx cx : Nat) (r c : Int) (p : Option Addr) (N cap : Nat) (w : World) (hf : fitJ r c N nx = false) :
    Calls Tryz.prog 28 #[sJ px nx cx r c p N cap] w fun e w' => e = .returned (mV 0 0 none 0 0) ∧ Bl w w' := by
  obtain ⟨W, hW⟩ : ∃ W, W = (w.alloc (.cells #[.slice px nx cx, .int .i64 r, .int .i64 c, .slice p N cap] 63)).alloc (.cells #[.int .i64 0, .int .i64 0, .slice none 0 0] 30) := ⟨_, rfl⟩
  have b0 : Bl w W := by rw [hW]; exact ((Bl.refl _).alloc _).alloc _
  have s0 : SBox W w.heap.size px nx cx r c p N cap := by rw [hW]; exact (SBox.new w _ _ _ _ _ _ _ _ _).later ((Bl.refl _).alloc _)
  have z0 : MBox W (w.heap.size + 1) 0 0 none 0 0 := by rw [hW]; have := MBox.new (w.alloc (.cells #[.slice px nx cx, .int .i64 r, .int .i64 c, .slice p N cap] 63)) 0 0 none 0 0 30; rw [World.size_alloc] at this; exact this
  have hs : W.heap.size = w.heap.size + 1 + 1 := by rw [hW]; simp
  have HW := hideP hW
  obtain ⟨c0, c1, c2, c3, _, _, _, _, _⟩ := id s0
  rw [hW] at c0 c1 c2 c3
  have BM := Tryz.buildM0F
  clear hW
  go_enter Tryz.func28, Tryz.ntmps28
  go_wp2_with fail
  try simp only [World.size_alloc]
  rw [← HW.out]
  refine (rRightF px nx cx r c p N cap W).mono ?_
  rintro e w1 ⟨rfl, h1⟩
  rw [hf]
  clear c0 c1 c2 c3
  obtain ⟨d0, d1, d2, g0, g1, g2, _⟩ := z0.later h1
  have B1 : Bl w w1 := b0.trans h1
  go_wp2
  simp [bodyPost, results, Tryz.results28, go_sem, d0, d1, d2, g0, g1, g2]
  exact Bl.put3 B1 (Nat.le_succ _) _ _ _
theorem cover10I (n : Nat) (px : Option Addr) (cx : Nat) (p : Option Addr) (N cap : Nat) (s : Nat → Nat → Int) (w : World) (h : MxI w n n p N cap s) (hs : Sm2 100 n n s) (h4 : n ≤ 4) :
    Calls Tryz.prog 28 #[sJ px n cx n n p N cap] w fun e w' => ∃ p' c', e = .returned (mV n n p' N c') ∧ MxI w' n n p' N c' (sqI n s) ∧ Bl w w' := by
  refine (rCoverF n px cx p N cap _ w h h4).mono ?_
  rintro e w' ⟨p', cap', rfl, hm, hb⟩
  refine ⟨p', cap', rfl, hm.congr fun i k hi hk => ?_, hb⟩
  show mulMF n (fun i k => itF (s i k)) (fun i k => itF (s k i)) (max i k) (min i k) = _
  have e := mulM_it (a := s) (b := fun i k => s k i) (A := 100) (B := 100) (R := n) (M := n) (D := n) hs (fun i k hi hk => hs k i hk hi) h.1.r2 (by omega) (by omega) (by omega) (i := max i k) (k := min i k) (by omega) (by omega)
  refine e.trans ?_
  rw [show mulI n s (fun i k => s k i) (max i k) (min i k) = sqI n s (max i k) (min i k) from rfl, sqI_mir]
end Go.Proofs.YtljmggemdkfbiaaGreat
