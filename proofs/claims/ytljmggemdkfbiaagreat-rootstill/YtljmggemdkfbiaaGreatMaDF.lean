/- Contracts of mat's At, Row, of fractions (layer 6). Written by genMa.py. -/
import Derived.Test.YtljmggemdkfbiaaGreatMaAF
namespace Go.Proofs.YtljmggemdkfbiaaGreat
open Go.RowKit
set_option linter.unusedSimpArgs false
set_option linter.unusedVariables false

theorem Tryz.info_MF : (Tryz.prog.info? 30).map (fun i => (i.zero, i.size, i.bytes)) = some (some (.agg #[.int .i64 0, .int .i64 0, .slice none 0 0]), 3, 40) := by kernel_rfl
theorem mAtF (R C : Nat) (p : Option Addr) (n cap : Nat) (f : Nat → Nat → Fr) (w : World) (h : Mx 3 cellsF w R C p n cap f) (i k : Nat) (hi : i < R) (hk : k < C) :
    Calls Tryz.prog 113 #[mV R C p n cap, .int .i64 i, .int .i64 k] w fun e w' => e = .returned (frV (f i k)) ∧ Bl w w' := by
  have hfit := h.fit
  obtain ⟨b, o, rfl, hc, hb, HC⟩ := h.cells
  obtain ⟨hd, hn, -⟩ := h
  have CX := HC i k hi hk
  clear HC
  have ha1 := amongB_t hi
  have ha2 := amongB_t hk
  obtain ⟨a, q, e1, e2, hq1, hq3, hq5, hq6⟩ := place hd hi hk
  rw [← e2] at CX
  rw [← hn] at hq5
  clear e1 e2
  generalize hx : f i k = x at *
  have y0 : ∀ u, Bl w u → u.cell? ⟨b, o + q * 3, none⟩ = some (.int .i64 x.n) := fun u hu => (bl_cell hu _ _ hb).trans (CX 0 _ rfl)
  have y1 : ∀ u, Bl w u → u.cell? ⟨b, o + q * 3 + 1, none⟩ = some (.int .i64 x.d) := fun u hu => (bl_cell hu _ _ hb).trans (CX 1 _ rfl)
  have y2 : ∀ u, Bl w u → u.cell? ⟨b, o + q * 3 + 2, none⟩ = some (.bool x.bad) := fun u hu => (bl_cell hu _ _ hb).trans (CX 2 _ rfl)
  clear CX hx
  have h16 := hd.lt
  rw [← hn] at h16
  clear hn
  obtain ⟨W, hW⟩ : ∃ W, W = (w.alloc (.cells #[.int .i64 R, .int .i64 C, .slice (some ⟨b, o, none⟩) n cap] 30)).alloc (.cells #[.int .i64 0, .int .i64 0, .bool false] 34) := ⟨_, rfl⟩
  have b0 : Bl w W := by rw [hW]; exact ((Bl.refl _).alloc _).alloc _
  have m0 : MBox W w.heap.size R C (some ⟨b, o, none⟩) n cap := by rw [hW]; exact (MBox.new w _ _ _ _ _ _).later ((Bl.refl _).alloc _)
  have x0 : FBox W (w.heap.size + 1) zeroR := by rw [hW]; have := FBox.new (w.alloc (.cells #[.int .i64 R, .int .i64 C, .slice (some ⟨b, o, none⟩) n cap] 30)) zeroR 34; rw [World.size_alloc] at this; exact this
  have HW := hideP hW
  clear hW
  go_enter Tryz.func113, Tryz.ntmps113
  go_wp2_with fail
  rw [← HW.out]
  refine (mRightF _ _ _ _ _ _).mono ?_
  rintro e w1 ⟨rfl, h1⟩
  rw [hfit]
  obtain ⟨c0, c1, c2, f0, f1, f2, lt⟩ := m0.later h1
  go_wp2_with fail
  refine (among_any _ _ _).mono ?_
  rintro e w2 ⟨rfl, rfl⟩
  rw [ha1]
  go_wp2_with fail
  refine (among_any _ _ _).mono ?_
  rintro e w3 ⟨rfl, rfl⟩
  rw [ha2]
  have z0 := y0 _ (b0.trans h1)
  have z1 := y1 _ (b0.trans h1)
  have z2 := y2 _ (b0.trans h1)
  obtain ⟨d0, d1, d2, g0, g1, g2, lt2⟩ := x0.later h1
  clear y0 y1 y2
  go_wp2
  simp [bodyPost, results, Tryz.results113, go_sem, d0, d1, d2]
  exact Bl.set3 (b0.trans h1) (Nat.le_succ _) _ _ _
theorem mAtF_no (R C : Nat) (p : Option Addr) (n cap : Nat) (w : World) (hfit : fitB R C n = true) (i k : Int) (h : ¬ ((0 ≤ i ∧ i < R) ∧ (0 ≤ k ∧ k < C))) :
    Calls Tryz.prog 113 #[mV R C p n cap, .int .i64 i, .int .i64 k] w fun e w' => e = .returned (frV zeroR) ∧ Bl w w' := by
  obtain ⟨W, hW⟩ : ∃ W, W = (w.alloc (.cells #[.int .i64 R, .int .i64 C, .slice p n cap] 30)).alloc (.cells #[.int .i64 0, .int .i64 0, .bool false] 34) := ⟨_, rfl⟩
  have b0 : Bl w W := by rw [hW]; exact ((Bl.refl _).alloc _).alloc _
  have m0 : MBox W w.heap.size R C p n cap := by rw [hW]; exact (MBox.new w _ _ _ _ _ _).later ((Bl.refl _).alloc _)
  have x0 : FBox W (w.heap.size + 1) zeroR := by rw [hW]; have := FBox.new (w.alloc (.cells #[.int .i64 R, .int .i64 C, .slice p n cap] 30)) zeroR 34; rw [World.size_alloc] at this; exact this
  have HW := hideP hW
  clear hW
  by_cases hi : 0 ≤ i ∧ i < R
  · have ha1 : amongB i R = true := decide_eq_true hi
    have ha2 : amongB k C = false := amongB_f (fun hk => h ⟨hi, hk⟩)
    go_enter Tryz.func113, Tryz.ntmps113
    go_wp2_with fail
    rw [← HW.out]
    refine (mRightF _ _ _ _ _ _).mono ?_
    rintro e w1 ⟨rfl, h1⟩
    rw [hfit]
    obtain ⟨c0, c1, c2, f0, f1, f2, lt⟩ := m0.later h1
    go_wp2_with fail
    refine (among_any _ _ _).mono ?_
    rintro e w2 ⟨rfl, rfl⟩
    rw [ha1]
    go_wp2_with fail
    refine (among_any _ _ _).mono ?_
    rintro e w3 ⟨rfl, rfl⟩
    rw [ha2]
    obtain ⟨d0, d1, d2, g0, g1, g2, lt2⟩ := x0.later (h1.trans ((Bl.refl _).alloc (.cells #[.int .i64 0, .int .i64 0, .bool false] 34)))
    go_wp2
    simp [bodyPost, results, Tryz.results113, go_sem, d0, d1, d2]
    exact ⟨by decide, Bl.set3 ((b0.trans h1).alloc _) (Nat.le_succ _) _ _ _⟩
  · have ha1 : amongB i R = false := amongB_f hi
    go_enter Tryz.func113, Tryz.ntmps113
    go_wp2_with fail
    rw [← HW.out]
    refine (mRightF _ _ _ _ _ _).mono ?_
    rintro e w1 ⟨rfl, h1⟩
    rw [hfit]
    obtain ⟨c0, c1, c2, f0, f1, f2, lt⟩ := m0.later h1
    go_wp2_with fail
    refine (among_any _ _ _).mono ?_
    rintro e w2 ⟨rfl, rfl⟩
    rw [ha1]
    obtain ⟨d0, d1, d2, g0, g1, g2, lt2⟩ := x0.later (h1.trans ((Bl.refl _).alloc (.cells #[.int .i64 0, .int .i64 0, .bool false] 34)))
    go_wp2
    simp [bodyPost, results, Tryz.results113, go_sem, d0, d1, d2]
    exact ⟨by decide, Bl.set3 ((b0.trans h1).alloc _) (Nat.le_succ _) _ _ _⟩
/-- A part of a row, as the program takes it. -/
theorem Tryz.partF (b o n cap lo hi : Nat) (w : World) (h1 : lo ≤ hi) (h2 : hi ≤ n) (h3 : n ≤ cap) (h4 : lo < cap) : (Instr.sliceAt 28 (.slice (some ⟨b, o, none⟩) n cap) (some (.int .i64 lo)) (some (.int .i64 hi)) none).run Tryz.prog w = .ok (.slice (some ⟨b, o + lo * 3, none⟩) (hi - lo) (cap - lo)) w := by
  have hu : Tryz.prog.underlying 28 = some (.slice (Tryz.prog.elem 28)) := by kernel_rfl
  obtain ⟨i0, hi0, hz0, hz1, hz2⟩ := info_parts Tryz.info_F
  have he : Tryz.prog.elem 28 = 34 := by kernel_rfl
  rw [run_sliceAt_slice (h := hu), run_slice_lh (ht := hu) (h0 := by omega) (h1 := by omega) (h2 := by omega), he]
  have hcm : ¬ cap = lo := by omega
  have hcm' : ¬ cap ≤ lo := by omega
  simp [sizeOf, typeInfo, hi0, sliced, Result.andThen, hz1, hcm, hcm', Addr.add]
theorem mRowF (R C : Nat) (p : Option Addr) (n cap : Nat) (f : Nat → Nat → Fr) (w : World) (h : Mx 3 cellsF w R C p n cap f) (i : Nat) (hi : i < R) :
    Calls Tryz.prog 129 #[mV R C p n cap, .int .i64 i] w fun e w' => ∃ p' cap', e = .returned (.slice p' C cap') ∧ (Rw 3 cellsF w' (.slice p' C cap') (rowM C f i) ∧ Fresh w.heap.size (.slice p' C cap') ∧ C ≤ cap') ∧ Bl w w' := by
  have hfit := h.fit
  obtain ⟨b, o, rfl, hc, hb, -⟩ := h.cells
  obtain ⟨hd, hn, hR⟩ := h
  have ha1 := amongB_t hi
  have h16 := hd.lt
  have hi16 : i < 16 := Nat.lt_of_lt_of_le hi hd.r2
  have hC16 := hd.c2
  have hC1 := hd.c1
  obtain ⟨a, e, e1, e2, hq1, hq3, hq5, hq6, hq7⟩ := places hd hi
  have hpt : Rq 3 cellsF w (.slice (some ⟨b, o + a * 3, none⟩) C (cap - a)) (rowM C f i) := by
    have := hR.part (lo := a) (m := C) (by rw [mk_len, hn]) (by omega) (by omega) (cap - a) (by omega)
    rw [e1, mk_row f hi] at this
    rw [e1]
    exact this
  have sl := fun u => Tryz.partF b o n cap a e u (by omega) (by omega) hc (by omega)
  rw [show e - a = C by omega] at sl
  have HP := hideP hpt
  rw [← hn] at h16 hq5
  clear hR hpt e1 e2 hn
  obtain ⟨W, hW⟩ : ∃ W, W = (w.alloc (.cells #[.int .i64 R, .int .i64 C, .slice (some ⟨b, o, none⟩) n cap] 30)) := ⟨_, rfl⟩
  have b0 : Bl w W := by rw [hW]; exact (Bl.refl _).alloc _
  have m0 : MBox W w.heap.size R C (some ⟨b, o, none⟩) n cap := by rw [hW]; exact MBox.new w _ _ _ _ _ _
  have HW := hideP hW
  clear hW
  go_enter Tryz.func129, Tryz.ntmps129
  go_wp2_with fail
  rw [← HW.out]
  refine (mRightF _ _ _ _ _ _).mono ?_
  rintro e w1 ⟨rfl, h1⟩
  rw [hfit]
  obtain ⟨c0, c1, c2, f0, f1, f2, lt⟩ := m0.later h1
  go_wp2_with fail
  refine (among_any _ _ _).mono ?_
  rintro e w2 ⟨rfl, rfl⟩
  rw [ha1]
  go_wp2_with fail
  refine (vCloneF _ (rowM C f i) _ (HP.out.later (b0.trans h1)) (by rw [rowM_len]; omega)).mono ?_
  rintro e w3 ⟨u, rfl, hR, hF, h3⟩
  obtain ⟨p', cap', rfl, hcl, _⟩ := hR.cut
  rw [rowM_len] at hR hF hcl ⊢
  have HR := hideP hR
  have HF := hideP hF
  clear hR hF
  go_wp2
  go_ret
  exact ⟨p', cap', rfl, ⟨HR.out, fun g hg => by have := HF.out g hg; have := (b0.trans h1).size; omega, hcl⟩, (b0.trans h1).trans h3⟩
theorem mRowF_no (R C : Nat) (p : Option Addr) (n cap : Nat) (w : World) (hfit : fitB R C n = true) (i : Int) (h : ¬ (0 ≤ i ∧ i < R)) :
    Calls Tryz.prog 129 #[mV R C p n cap, .int .i64 i] w fun e w' => e = .returned (.slice none 0 0) ∧ Bl w w' := by
  have ha1 : amongB i R = false := amongB_f h
  obtain ⟨W, hW⟩ : ∃ W, W = (w.alloc (.cells #[.int .i64 R, .int .i64 C, .slice p n cap] 30)) := ⟨_, rfl⟩
  have b0 : Bl w W := by rw [hW]; exact (Bl.refl _).alloc _
  have m0 : MBox W w.heap.size R C p n cap := by rw [hW]; exact MBox.new w _ _ _ _ _ _
  have HW := hideP hW
  clear hW
  go_enter Tryz.func129, Tryz.ntmps129
  go_wp2_with fail
  rw [← HW.out]
  refine (mRightF _ _ _ _ _ _).mono ?_
  rintro e w1 ⟨rfl, h1⟩
  rw [hfit]
  obtain ⟨c0, c1, c2, f0, f1, f2, lt⟩ := m0.later h1
  go_wp2_with fail
  refine (among_any _ _ _).mono ?_
  rintro e w2 ⟨rfl, rfl⟩
  rw [ha1]
  go_wp2
  go_ret
  exact ⟨rfl, b0.trans h1⟩
end Go.Proofs.YtljmggemdkfbiaaGreat
