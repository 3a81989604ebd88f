/- Contracts of mat's Col, Mirror, of fractions (layer 6). Written by genMa.py. -/
import Derived.Test.YtljmggemdkfbiaaGreatMaL0
import Derived.Test.YtljmggemdkfbiaaGreatMaBF
namespace Go.Proofs.YtljmggemdkfbiaaGreat
open Go.RowKit
set_option linter.unusedSimpArgs false
set_option linter.unusedVariables false

theorem mMirror1F (R : Nat) (p : Option Addr) (n cap : Nat) (f : Nat → Nat → Fr) (w : World) (h : Mx 3 cellsF w R R p n cap f) (mb : Nat) (hm : MBox w mb R R p n cap) (i k : Nat) (hi : i < R) (hk : k < R) :
    Calls Tryz.prog 132 #[.int .i64 i, .int .i64 k, .pointer (some ⟨mb, 0, none⟩)] w fun e w' => e = .returned (frV (mirM f i k)) ∧ Bl w w' := by
  obtain ⟨W, hW⟩ : ∃ W, W = w.alloc (.cells #[.int .i64 0, .int .i64 0, .bool false] 34) := ⟨_, rfl⟩
  have b0 : Bl w W := by rw [hW]; exact (Bl.refl _).alloc _
  have x0 : FBox W w.heap.size zeroR := by rw [hW]; exact FBox.new w zeroR 34
  obtain ⟨c0, c1, c2, f0, f1, f2, lt⟩ := hm
  have HW := hideP hW
  clear hW
  rcases Nat.lt_trichotomy i k with hik | hik | hik
  · have q1 : (i : Int) < (k : Int) := by omega
    have q2 : ¬ (k : Int) < (i : Int) := by omega
    have A := hideP (fun u (hu : Bl w u) => mAtF R R p n cap f u (h.later hu) k i (by omega) (by omega))
    have e0 : mirM f i k = f k i := by unfold mirM; rw [show max i k = k by omega, show min i k = i by omega]
    rw [e0]
    clear h e0
    generalize f k i = x at *
    go_enter Tryz.func132, Tryz.ntmps132
    go_wp2_with fail
    rw [← HW.out]
    refine (A.out _ b0).mono ?_
    rintro e w1 ⟨rfl, h1⟩
    clear c0 c1 c2 f0 f1 f2 A
    obtain ⟨d0, d1, d2, g0, g1, g2, lt2⟩ := x0.later h1
    go_wp2
    simp [bodyPost, results, Tryz.results132, go_sem, d0, d1, d2]
    exact Bl.set3 (b0.trans h1) (Nat.le_refl _) _ _ _
  · subst hik
    have A := hideP (fun u (hu : Bl w u) => mAtF R R p n cap f u (h.later hu) i i (by omega) (by omega))
    have e0 : mirM f i i = f i i := by unfold mirM; rw [Nat.max_self, Nat.min_self]
    rw [e0]
    clear h e0
    generalize f i i = x at *
    go_enter Tryz.func132, Tryz.ntmps132
    go_wp2_with fail
    rw [← HW.out]
    refine (A.out _ b0).mono ?_
    rintro e w1 ⟨rfl, h1⟩
    clear c0 c1 c2 f0 f1 f2 A
    obtain ⟨d0, d1, d2, g0, g1, g2, lt2⟩ := x0.later h1
    go_wp2
    simp [bodyPost, results, Tryz.results132, go_sem, d0, d1, d2]
    exact Bl.set3 (b0.trans h1) (Nat.le_refl _) _ _ _
  · have q1 : (k : Int) < (i : Int) := by omega
    have q2 : ¬ (i : Int) < (k : Int) := by omega
    have A := hideP (fun u (hu : Bl w u) => mAtF R R p n cap f u (h.later hu) i k (by omega) (by omega))
    have e0 : mirM f i k = f i k := by unfold mirM; rw [show max i k = i by omega, show min i k = k by omega]
    rw [e0]
    clear h e0
    generalize f i k = x at *
    go_enter Tryz.func132, Tryz.ntmps132
    go_wp2_with fail
    rw [← HW.out]
    refine (A.out _ b0).mono ?_
    rintro e w1 ⟨rfl, h1⟩
    clear c0 c1 c2 f0 f1 f2 A
    obtain ⟨d0, d1, d2, g0, g1, g2, lt2⟩ := x0.later h1
    go_wp2
    simp [bodyPost, results, Tryz.results132, go_sem, d0, d1, d2]
    exact Bl.set3 (b0.trans h1) (Nat.le_refl _) _ _ _
theorem mMirrorF (R : Nat) (p : Option Addr) (n cap : Nat) (f : Nat → Nat → Fr) (w : World) (h : Mx 3 cellsF w R R p n cap f) :
    Calls Tryz.prog 90 #[mV R R p n cap] w fun e w' => ∃ p' cap', e = .returned (.tuple #[mV R R p' n cap', .bool true]) ∧ (Mx 3 cellsF w' R R p' n cap' (mirM f) ∧ Rw 3 cellsF w' (.slice p' n cap') (mk R R (mirM f)) ∧ Fresh w.heap.size (.slice p' n cap')) ∧ Bl w w' := by
  have hfit := h.fit
  obtain ⟨W, hW⟩ : ∃ W, W = (w.alloc (.cells #[.int .i64 R, .int .i64 R, .slice p n cap] 30)).alloc (.cells #[.int .i64 0, .int .i64 0, .slice none 0 0] 30) := ⟨_, rfl⟩
  have b0 : Bl w W := by rw [hW]; exact ((Bl.refl _).alloc _).alloc _
  have m0 : MBox W w.heap.size R R p n cap := by rw [hW]; exact (MBox.new w _ _ _ _ _ _).later ((Bl.refl _).alloc _)
  have x0 : MBox W (w.heap.size + 1) 0 0 none 0 0 := by rw [hW]; have := MBox.new (w.alloc (.cells #[.int .i64 R, .int .i64 R, .slice p n cap] 30)) 0 0 none 0 0 30; rw [World.size_alloc] at this; exact this
  have hs : W.heap.size = w.heap.size + 1 + 1 := by rw [hW]; simp
  have FI := hideP (fun u (hu : Bl W u) => mFilledF 132 w.heap.size (enters_of Tryz.func132 (by kernel_rfl) rfl) (mirM f) R R n h.1 h.2.1 u
    (fun i k v hi hk hv => mMirror1F R p n cap f v (h.later (b0.trans (hu.trans hv))) _ (m0.later (hu.trans hv)) i k hi hk))
  have HD := hideP h
  have HW := hideP hW
  clear hW h
  go_enter Tryz.func90, Tryz.ntmps90
  go_wp2_with fail
  rw [← HW.out]
  refine (mRightF _ _ _ _ _ _).mono ?_
  rintro e w1 ⟨rfl, h1⟩
  rw [hfit]
  obtain ⟨c0, c1, c2, f0, f1, f2, lt⟩ := m0.later h1
  go_wp2_with fail
  refine (FI.out _ h1).mono ?_
  rintro e w2 ⟨p', cap', rfl, ⟨hR, hF⟩, h2⟩
  have HR := hideP hR
  have HF := hideP (show Fresh (w.heap.size + 1 + 1) (.slice p' n cap') from fun g hg => by have := hF g hg; have := h1.size; omega)
  clear hR hF FI c0 c1 c2 f0 f1 f2
  obtain ⟨c0, c1, c2, f0, f1, f2, lt2⟩ := x0.later (h1.trans h2)
  go_wp2
  simp [bodyPost, results, Tryz.results90, go_sem, c0, c1, c2]
  have q := ((HR.out.set (p := ⟨w.heap.size + 1, 0, none⟩) (.int .i64 R) HF.out).set (p := ⟨w.heap.size + 1, 1, none⟩) (.int .i64 R) HF.out).set (p := ⟨w.heap.size + 1, 2, none⟩) (.slice p' n cap') HF.out
  refine ⟨p', cap', ⟨rfl, rfl⟩, ⟨⟨HD.out.1, HD.out.2.1, q.q⟩, q, fun g hg => by have := HF.out g hg; omega⟩, Bl.put3 ((b0.trans h1).trans h2) (Nat.le_succ _) _ _ _⟩
theorem mMirrorF_no (R C : Nat) (p : Option Addr) (n cap : Nat) (w : World) (hfit : fitB R C n = true) (hne : R ≠ C) :
    Calls Tryz.prog 90 #[mV R C p n cap] w fun e w' => e = .returned (.tuple #[mV 0 0 none 0 0, .bool false]) ∧ Bl w w' := by
  obtain ⟨W, hW⟩ : ∃ W, W = (w.alloc (.cells #[.int .i64 R, .int .i64 C, .slice p n cap] 30)).alloc (.cells #[.int .i64 0, .int .i64 0, .slice none 0 0] 30) := ⟨_, rfl⟩
  have b0 : Bl w W := by rw [hW]; exact ((Bl.refl _).alloc _).alloc _
  have m0 : MBox W w.heap.size R C p n cap := by rw [hW]; exact (MBox.new w _ _ _ _ _ _).later ((Bl.refl _).alloc _)
  have x0 : MBox W (w.heap.size + 1) 0 0 none 0 0 := by rw [hW]; have := MBox.new (w.alloc (.cells #[.int .i64 R, .int .i64 C, .slice p n cap] 30)) 0 0 none 0 0 30; rw [World.size_alloc] at this; exact this
  have hne' : ((R : Int) == (C : Int)) = false := by simp; omega
  have HW := hideP hW
  clear hW hne
  go_enter Tryz.func90, Tryz.ntmps90
  go_wp2_with fail
  rw [← HW.out]
  refine (mRightF _ _ _ _ _ _).mono ?_
  rintro e w1 ⟨rfl, h1⟩
  rw [hfit]
  obtain ⟨c0, c1, c2, f0, f1, f2, lt⟩ := m0.later h1
  obtain ⟨d0, d1, d2, g0, g1, g2, lt2⟩ := x0.later h1
  go_wp2
  simp [bodyPost, results, Tryz.results90, go_sem, d0, d1, d2]
  exact Bl.put3 (b0.trans h1) (Nat.le_succ _) _ _ _
end Go.Proofs.YtljmggemdkfbiaaGreat
