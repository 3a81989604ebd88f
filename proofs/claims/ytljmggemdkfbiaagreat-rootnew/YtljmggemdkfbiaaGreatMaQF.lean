/- mat's Mul of what does not go together, of fractions (layer 6). Written by genMa.py. -/
import Derived.Test.YtljmggemdkfbiaaGreatMaAF
namespace Go.Proofs.YtljmggemdkfbiaaGreat
open Go.RowKit
set_option linter.unusedSimpArgs false
set_option linter.unusedVariables false

theorem mMulF_no (r c r2 c2 : Int) (p : Option Addr) (n cap : Nat) (q : Option Addr) (n2 cap2 : Nat) (w : World) (h : fitB r c n = false ∨ fitB r2 c2 n2 = false ∨ c ≠ r2) :
    Calls Tryz.prog 87 #[mV r c p n cap, mV r2 c2 q n2 cap2] w fun e w' => e = .returned (.tuple #[mV 0 0 none 0 0, .bool false]) ∧ Bl w w' := by
  obtain ⟨W, hW⟩ : ∃ W, W = ((w.alloc (.cells #[.int .i64 r, .int .i64 c, .slice p n cap] 30)).alloc (.cells #[.int .i64 r2, .int .i64 c2, .slice q n2 cap2] 30)).alloc (.cells #[.int .i64 0, .int .i64 0, .slice none 0 0] 30) := ⟨_, rfl⟩
  have b0 : Bl w W := by rw [hW]; exact (((Bl.refl _).alloc _).alloc _).alloc _
  have mx0 : MBox W w.heap.size r c p n cap := by rw [hW]; exact (MBox.new w _ _ _ _ _ _).later (((Bl.refl _).alloc _).alloc _)
  have my0 : MBox W (w.heap.size + 1) r2 c2 q n2 cap2 := by rw [hW]; have := (MBox.new (w.alloc (.cells #[.int .i64 r, .int .i64 c, .slice p n cap] 30)) r2 c2 q n2 cap2 30); rw [World.size_alloc] at this; exact this.later ((Bl.refl _).alloc _)
  have mz0 : MBox W (w.heap.size + 1 + 1) 0 0 none 0 0 := by rw [hW]; have := MBox.new ((w.alloc (.cells #[.int .i64 r, .int .i64 c, .slice p n cap] 30)).alloc (.cells #[.int .i64 r2, .int .i64 c2, .slice q n2 cap2] 30)) 0 0 none 0 0 30; rw [World.size_alloc, World.size_alloc] at this; exact this
  have HW := hideP hW
  clear hW
  cases hfx : fitB r c n with
  | false =>
    clear h
    go_enter Tryz.func87, Tryz.ntmps87
    go_wp2_with fail
    rw [← HW.out]
    refine (mRightF _ _ _ _ _ _).mono ?_
    rintro e w1 ⟨rfl, h1⟩
    rw [hfx]
    obtain ⟨c0, c1, c2, f0, f1, f2, lt⟩ := mz0.later h1
    go_wp2
    simp [bodyPost, results, Tryz.results87, go_sem, c0, c1, c2]
    exact Bl.put3 (b0.trans h1) (by omega) _ _ _
  | true =>
    cases hfy : fitB r2 c2 n2 with
    | false =>
      clear h
      go_enter Tryz.func87, Tryz.ntmps87
      go_wp2_with fail
      rw [← HW.out]
      refine (mRightF _ _ _ _ _ _).mono ?_
      rintro e w1 ⟨rfl, h1⟩
      rw [hfx]
      obtain ⟨d0, d1, d2, u0, u1, u2, ltm⟩ := my0.later h1
      go_wp2_with fail
      refine (mRightF _ _ _ _ _ _).mono ?_
      rintro e w2 ⟨rfl, h2⟩
      rw [hfy]
      clear d0 d1 d2 u0 u1 u2 ltm
      obtain ⟨c0, c1, c2, f0, f1, f2, lt⟩ := mz0.later (h1.trans h2)
      go_wp2
      simp [bodyPost, results, Tryz.results87, go_sem, c0, c1, c2]
      exact Bl.put3 (b0.trans (h1.trans h2)) (by omega) _ _ _
    | true =>
      have hne : c ≠ r2 := by rcases h with h | h | h; · rw [hfx] at h; cases h
                              · rw [hfy] at h; cases h
                              · exact h
      have hne' : (c == r2) = false := by simpa using hne
      clear h
      go_enter Tryz.func87, Tryz.ntmps87
      go_wp2_with fail
      rw [← HW.out]
      refine (mRightF _ _ _ _ _ _).mono ?_
      rintro e w1 ⟨rfl, h1⟩
      rw [hfx]
      obtain ⟨d0, d1, d2, u0, u1, u2, ltm⟩ := my0.later h1
      go_wp2_with fail
      refine (mRightF _ _ _ _ _ _).mono ?_
      rintro e w2 ⟨rfl, h2⟩
      rw [hfy]
      clear d0 d1 d2 u0 u1 u2 ltm
      obtain ⟨d0, d1, d2, u0, u1, u2, ltm⟩ := my0.later (h1.trans h2)
      obtain ⟨a0, a1, a2, v0, v1, v2, lta⟩ := mx0.later (h1.trans h2)
      obtain ⟨c0, c1, c2, f0, f1, f2, lt⟩ := mz0.later (h1.trans h2)
      go_wp2
      simp [bodyPost, results, Tryz.results87, go_sem, c0, c1, c2]
      exact Bl.put3 (b0.trans (h1.trans h2)) (by omega) _ _ _
end Go.Proofs.YtljmggemdkfbiaaGreat
