/- Contracts of tri's Clear, Root, of enclosed numbers (layer 7). Written by genTr.py. -/
import Derived.Test.YtljmggemdkfbiaaGreatTrAN
import Derived.Test.YtljmggemdkfbiaaGreatMaEN
namespace Go.Proofs.YtljmggemdkfbiaaGreat
open Go.RowKit
set_option linter.unusedSimpArgs false
set_option linter.unusedVariables false

theorem Tryz.mDivN (x : Value) (w : World) : (method 327 52 x "Div").run Tryz.prog w = .ok (203, x) w := by kernel_rfl
theorem Tryz.mRootN (x : Value) (w : World) : (method 327 52 x "Root").run Tryz.prog w = .ok (206, x) w := by kernel_rfl
theorem tClear1N (n : Nat) (p0 : Option Addr) (N cap0 : Nat) (P : Nat → Nat → En) (p : Option Addr) (cap : Nat) (w : World) (hP : Mx 4 cellsN w n n p0 N cap0 P) (pb : Nat) (hm : MBox w pb n n p0 N cap0) (i k : Nat) (hi : i < n) (hk : k < n) :
    Calls Tryz.prog 117 #[mV n n p N cap, .int .i64 i, .int .i64 k, .pointer (some ⟨pb, 0, none⟩)] w fun e w' => e = .returned (enV (P i k)) ∧ Bl w w' := by
  have A := hideP (fun u (hu : Bl w u) => mAtN n n p0 N cap0 P u (hP.later hu) i k hi hk)
  obtain ⟨W, hW⟩ : ∃ W, W = (w.alloc (.cells #[.int .i64 n, .int .i64 n, .slice p N cap] 48)).alloc (.cells #[.int .i64 0, .int .i64 0, .int .i64 0, .bool false] 52) := ⟨_, rfl⟩
  have b0 : Bl w W := by rw [hW]; exact ((Bl.refl _).alloc _).alloc _
  have x0 : Box W (w.heap.size + 1) zeroE := by rw [hW]; have := Box.new (w.alloc (.cells #[.int .i64 n, .int .i64 n, .slice p N cap] 48)) zeroE 52; rw [World.size_alloc] at this; exact this
  obtain ⟨c0, c1, c2, f0, f1, f2, lt⟩ := hm
  have HW := hideP hW
  clear hW hP
  generalize P i k = x at *
  go_enter Tryz.func117, Tryz.ntmps117
  go_wp2_with fail
  rw [← HW.out]
  refine (A.out _ b0).mono ?_
  rintro e w1 ⟨rfl, h1⟩
  clear c0 c1 c2 f0 f1 f2 A
  obtain ⟨d0, d1, d2, d3, g0, g1, g2, g3, lt2⟩ := x0.later h1
  go_wp2
  simp [bodyPost, results, Tryz.results117, go_sem, d0, d1, d2, d3]
  exact Bl.set4 (b0.trans h1) (Nat.le_succ _) _ _ _ _

/-- A matrix with z above its diagonal. -/
def clrN (f : Nat → Nat → En) (i k : Nat) : En := if k ≤ i then f i k else wholeN 0
theorem tClearN (n : Nat) (p : Option Addr) (N cap : Nat) (f : Nat → Nat → En) (w : World) (h : Mx 4 cellsN w n n p N cap f) :
    Calls Tryz.prog 71 #[mV n n p N cap] w fun e w' => ∃ p' cap', e = .returned (.tuple #[mV n n p' N cap', .bool true]) ∧ (Mx 4 cellsN w' n n p' N cap' (clrN f) ∧ Fresh w.heap.size (.slice p' N cap')) ∧ Bl w w' := by
  have hsq : sqB n n N = true := by unfold sqB; rw [h.fit]; simp
  obtain ⟨W, hW⟩ : ∃ W, W = (w.alloc (.cells #[.int .i64 n, .int .i64 n, .slice p N cap] 48)).alloc (.cells #[.int .i64 0, .int .i64 0, .slice none 0 0] 48) := ⟨_, rfl⟩
  have b0 : Bl w W := by rw [hW]; exact ((Bl.refl _).alloc _).alloc _
  have m0 : MBox W w.heap.size n n p N cap := by rw [hW]; exact (MBox.new w _ _ _ _ _ _).later ((Bl.refl _).alloc _)
  have x0 : MBox W (w.heap.size + 1) 0 0 none 0 0 := by rw [hW]; have := MBox.new (w.alloc (.cells #[.int .i64 n, .int .i64 n, .slice p N cap] 48)) 0 0 none 0 0 48; rw [World.size_alloc] at this; exact this
  have hs : W.heap.size = w.heap.size + 1 + 1 := by rw [hW]; simp
  have FI := hideP (fun u (hu : Bl W u) => (tTriangleN 117 w.heap.size (enters_of Tryz.func117 (by kernel_rfl) rfl) (fun _ i k => f i k) n N h.1.r1 h.1.r2 h.2.1 u
    (fun g p' cap' i k v hki hi hv _ => tClear1N n p N cap f p' cap' v (h.later (b0.trans (hu.trans hv))) _ (m0.later (hu.trans hv)) i k hi (by omega))).mono (R' := fun e w' => ∃ p' cap', e = .returned (mV n n p' N cap') ∧ (Mx 4 cellsN w' n n p' N cap' (clrN f) ∧ Fresh u.heap.size (.slice p' N cap')) ∧ Bl u w') (by
      rintro e w' ⟨p', cap', rfl, ⟨hR, hF⟩, hb⟩
      refine ⟨p', cap', rfl, ⟨hR.congr7 fun i k hi hk => ?_, hF⟩, hb⟩
      rw [triT_const f _ n n (Nat.le_refl _) i k hi]
      unfold clrN
      by_cases hki : k ≤ i
      · rw [if_pos ⟨hki, hk⟩, if_pos hki]
      · rw [if_neg (by omega), if_neg hki]))
  have HD := hideP h
  have HW := hideP hW
  clear hW h
  go_enter Tryz.func71, Tryz.ntmps71
  go_wp2_with fail
  rw [← HW.out]
  refine (tSquareN _ _ _ _ _ _).mono ?_
  rintro e w1 ⟨rfl, h1⟩
  rw [hsq]
  obtain ⟨c0, c1, c2, f0, f1, f2, lt⟩ := m0.later h1
  go_wp2_with fail
  refine (FI.out _ h1).mono ?_
  rintro e w2 ⟨p', cap', rfl, ⟨hR, hF⟩, h2⟩
  have HR := hideP hR
  have HF := hideP (show Fresh (w.heap.size + 1 + 1) (.slice p' N cap') from fun g hg => by have := hF g hg; have := h1.size; omega)
  clear hR hF FI c0 c1 c2 f0 f1 f2
  obtain ⟨c0, c1, c2, f0, f1, f2, lt2⟩ := x0.later (h1.trans h2)
  go_wp2
  simp [bodyPost, results, Tryz.results71, go_sem, c0, c1, c2]
  exact ⟨p', cap', ⟨rfl, rfl⟩, ⟨mx_put7 HR.out HF.out _ _ _, fun g hg => by have := HF.out g hg; omega⟩, Bl.put3 ((b0.trans h1).trans h2) (Nat.le_succ _) _ _ _⟩
theorem tClearN_no (r c : Int) (p : Option Addr) (n cap : Nat) (w : World) (hsq : sqB r c n = false) :
    Calls Tryz.prog 71 #[mV r c p n cap] w fun e w' => e = .returned (.tuple #[mV 0 0 none 0 0, .bool false]) ∧ Bl w w' := by
  obtain ⟨W, hW⟩ : ∃ W, W = (w.alloc (.cells #[.int .i64 r, .int .i64 c, .slice p n cap] 48)).alloc (.cells #[.int .i64 0, .int .i64 0, .slice none 0 0] 48) := ⟨_, rfl⟩
  have b0 : Bl w W := by rw [hW]; exact ((Bl.refl _).alloc _).alloc _
  have x0 : MBox W (w.heap.size + 1) 0 0 none 0 0 := by rw [hW]; have := MBox.new (w.alloc (.cells #[.int .i64 r, .int .i64 c, .slice p n cap] 48)) 0 0 none 0 0 48; rw [World.size_alloc] at this; exact this
  have HW := hideP hW
  clear hW
  go_enter Tryz.func71, Tryz.ntmps71
  go_wp2_with fail
  rw [← HW.out]
  refine (tSquareN _ _ _ _ _ _).mono ?_
  rintro e w1 ⟨rfl, h1⟩
  rw [hsq]
  obtain ⟨c0, c1, c2, f0, f1, f2, lt2⟩ := x0.later h1
  go_wp2
  simp [bodyPost, results, Tryz.results71, go_sem, c0, c1, c2]
  exact Bl.put3 (b0.trans h1) (Nat.le_succ _) _ _ _
end Go.Proofs.YtljmggemdkfbiaaGreat
