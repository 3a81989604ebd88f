/- Contract of joseph's Update, of fractions (layer 9): what does not go together. Written by genJo.py. -/
import Derived.Test.YtljmggemdkfbiaaGreatJoE0F
namespace Go.Proofs.YtljmggemdkfbiaaGreat
open Go.RowKit
set_option linter.unusedSimpArgs false
set_option linter.unusedVariables false

set_option maxRecDepth 100000 in
set_option maxHeartbeats 4000000 in
theorem jUpdateF_no (px : Option Addr) (nx cx : Nat) (fr fc : Int) (p : Option Addr) (N cap : Nat) (ph : Option Addr) (nh ch : Nat) (r z : Fr) (w : World) (hno : (fitJ fr fc N nx && (nh == nx)) = false) :
    Calls Tryz.prog 15 #[sJ px nx cx fr fc p N cap, .slice ph nh ch, frV r, frV z] w fun e w' => e = .returned (.tuple #[sJ none 0 0 0 0 none 0 0, newsVF zeroR zeroR, .bool false]) ∧ Bl w w' := by
  obtain ⟨W, hW⟩ : ∃ W, W = ((((w.alloc (.cells #[.slice px nx cx, .int .i64 fr, .int .i64 fc, .slice p N cap] 36)).alloc (.cells #[.int .i64 r.n, .int .i64 r.d, .bool r.bad] 34)).alloc (.cells #[.int .i64 z.n, .int .i64 z.d, .bool z.bad] 34)).alloc (.cells #[.slice none 0 0, .int .i64 0, .int .i64 0, .slice none 0 0] 36)).alloc (.cells #[.int .i64 0, .int .i64 0, .bool false, .int .i64 0, .int .i64 0, .bool false] 41) := ⟨_, rfl⟩
  have b0 : Bl w W := by rw [hW]; exact (((((Bl.refl _).alloc _).alloc _).alloc _).alloc _).alloc _
  have s0 : SBox W w.heap.size px nx cx fr fc p N cap := by rw [hW]; exact (SBox.new w _ _ _ _ _ _ _ _ _).later (((((Bl.refl _).alloc _).alloc _).alloc _).alloc _)
  have sz0 : SBox W (w.heap.size + 1 + 1 + 1) none 0 0 0 0 none 0 0 := by rw [hW]; have := SBox.new (((w.alloc (.cells #[.slice px nx cx, .int .i64 fr, .int .i64 fc, .slice p N cap] 36)).alloc (.cells #[.int .i64 r.n, .int .i64 r.d, .bool r.bad] 34)).alloc (.cells #[.int .i64 z.n, .int .i64 z.d, .bool z.bad] 34)) none 0 0 0 0 none 0 0 36; rw [World.size_alloc, World.size_alloc, World.size_alloc] at this; exact this.later ((Bl.refl _).alloc _)
  have nz0 : NBoxF W (w.heap.size + 1 + 1 + 1 + 1) zeroR zeroR := by rw [hW]; have := NBoxF.new ((((w.alloc (.cells #[.slice px nx cx, .int .i64 fr, .int .i64 fc, .slice p N cap] 36)).alloc (.cells #[.int .i64 r.n, .int .i64 r.d, .bool r.bad] 34)).alloc (.cells #[.int .i64 z.n, .int .i64 z.d, .bool z.bad] 34)).alloc (.cells #[.slice none 0 0, .int .i64 0, .int .i64 0, .slice none 0 0] 36)) zeroR zeroR 41; rw [World.size_alloc, World.size_alloc, World.size_alloc, World.size_alloc] at this; exact this
  have HW := hideP hW
  clear hW
  go_enter Tryz.func15, Tryz.ntmps15
  go_wp2_with fail
  rw [← HW.out]
  refine (jRightF _ _ _ _ _ _ _ _ _).mono ?_
  rintro e w1 ⟨rfl, h1⟩
  cases h1' : fitJ fr fc N nx with
  | false =>
    obtain ⟨c0, c1, c2, c3, f0, f1, f2, f3, lt⟩ := sz0.later h1
    obtain ⟨n0, n1, n2, n3, n4, n5, g0, g1, g2, g3, g4, g5, ltn⟩ := nz0.later h1
    have B0 := b0.trans h1
    have hn8 : w.heap.size ≤ w.heap.size + 1 + 1 + 1 := by omega
    have hn9 : w.heap.size ≤ w.heap.size + 1 + 1 + 1 + 1 := by omega
    go_wp2
    simp [bodyPost, results, Tryz.results15, go_sem, c0, c1, c2, c3, n0, n1, n2, n3, n4, n5]
    refine ⟨by simp [zeroR], ?_⟩
    refine Bl.set ?_ (by exact hn9) _
    refine Bl.set ?_ (by exact hn9) _
    refine Bl.set ?_ (by exact hn9) _
    refine Bl.set ?_ (by exact hn9) _
    refine Bl.set ?_ (by exact hn9) _
    refine Bl.set ?_ (by exact hn9) _
    exact Bl.put4 B0 hn8 _ _ _ _
  | true =>
    rw [h1', Bool.true_and] at hno
    have hne : ((nh : Int) != (nx : Int)) = true := by
      have : nh ≠ nx := by simpa using hno
      simp
      omega
    obtain ⟨d0, d1, d2, d3, _, _, _, _, _⟩ := s0.later h1
    obtain ⟨c0, c1, c2, c3, f0, f1, f2, f3, lt⟩ := sz0.later h1
    obtain ⟨n0, n1, n2, n3, n4, n5, g0, g1, g2, g3, g4, g5, ltn⟩ := nz0.later h1
    have B0 := b0.trans h1
    have hn8 : w.heap.size ≤ w.heap.size + 1 + 1 + 1 := by omega
    have hn9 : w.heap.size ≤ w.heap.size + 1 + 1 + 1 + 1 := by omega
    go_wp2
    simp [bodyPost, results, Tryz.results15, go_sem, c0, c1, c2, c3, n0, n1, n2, n3, n4, n5]
    refine ⟨by simp [zeroR], ?_⟩
    refine Bl.set ?_ (by exact hn9) _
    refine Bl.set ?_ (by exact hn9) _
    refine Bl.set ?_ (by exact hn9) _
    refine Bl.set ?_ (by exact hn9) _
    refine Bl.set ?_ (by exact hn9) _
    refine Bl.set ?_ (by exact hn9) _
    exact Bl.put4 B0 hn8 _ _ _ _
end Go.Proofs.YtljmggemdkfbiaaGreat
