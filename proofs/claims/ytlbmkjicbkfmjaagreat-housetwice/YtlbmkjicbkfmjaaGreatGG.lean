/- The loop of Rfv, where what a round is told may speak of all that came before. -/
import Derived.Test.YtlbmkjicbkfmjaaGreatMa0
import Derived.Test.YtlbmkjicbkfmjaaGreatGF
import Derived.RangeFuncNested
import Derived.RangeFuncBound
import Derived.RangeFuncCalls
import Derived.RangeFuncLeaves
import Derived.Shelf.Abstract
import Derived.Shelf.RegionOpen
import Derived.OwnWalkIn
import Derived.TacticsInMore
import Derived.LoopNIn
import Derived.LoopIn
import Derived.Test.YtlbmkjicbkfmjaaGreatGB
import Derived.Test.YtlbmkjicbkfmjaaGreatTr0
import Derived.Test.YtlbmkjicbkfmjaaGreatGE
import Derived.Test.YtlbmkjicbkfmjaaGreatReg
import Derived.Test.YtlbmkjicbkfmjaaGreatRegQ
import Derived.Laws.EntriesVeiled
import Derived.Test.YtlbmkjicbkfmjaaGreatRfv
import Derived.Test.YtlbmkjicbkfmjaaGreatGA
/- Contracts of mat's Right, New, Whole, of enclosed numbers (layer 6). Written by genMa.py. -/
namespace Go.Proofs.YtlbmkjicbkfmjaaGreat
open Go.RowKit
set_option linter.unusedSimpArgs false
set_option linter.unusedVariables false

theorem mRightN (r c : Int) (p : Option Addr) (n cap : Nat) (w : World) :
    Calls Tryz.prog 67 #[mV r c p n cap] w fun e w' => e = .returned (.bool (fitB r c n)) ∧ Bl w w' := by
  go_enter Tryz.func67, Tryz.ntmps67
  go_wp2_with fail
  refine (fits_any _ _ _ _).mono ?_
  rintro e w1 ⟨rfl, rfl⟩
  go_wp2
  go_ret
  exact ⟨rfl, (Bl.refl _).alloc _⟩
theorem mNewN_no (r c : Int) (p : Option Addr) (n cap : Nat) (w : World) (h : fitB r c n = false) :
    Calls Tryz.prog 9 #[.int .i64 r, .int .i64 c, .slice p n cap] w fun e w' => e = .returned (.tuple #[mV 0 0 none 0 0, .bool false]) ∧ Bl w w' := by
  go_enter Tryz.func9, Tryz.ntmps9
  go_wp2_with fail
  refine (fits_any _ _ _ _).mono ?_
  rintro e w1 ⟨rfl, rfl⟩
  rw [h]
  go_wp2
  simp [bodyPost, results, Tryz.results9, go_sem]
  exact (Bl.refl _).alloc _
theorem mNewN (r c : Int) (p : Option Addr) (n cap : Nat) (xs : List En) (w : World) (hr : Rq 4 cellsN w (.slice p n cap) xs) (h : fitB r c n = true) (hn : xs.length = n) :
    Calls Tryz.prog 9 #[.int .i64 r, .int .i64 c, .slice p n cap] w fun e w' => ∃ p' cap', e = .returned (.tuple #[mV r c p' n cap', .bool true]) ∧ (Rw 4 cellsN w' (.slice p' n cap') xs ∧ Fresh w.heap.size (.slice p' n cap')) ∧ Bl w w' := by
  have hl : n ≤ 1000000 := by obtain ⟨R, C, _, _, hd, rfl⟩ := fitB_nat h; have := hd.lt; omega
  obtain ⟨W, hW⟩ : ∃ W, W = w.alloc (.cells #[.int .i64 0, .int .i64 0, .slice none 0 0] 24) := ⟨_, rfl⟩
  have b0 : Bl w W := by rw [hW]; exact (Bl.refl _).alloc _
  have x0 : MBox W w.heap.size 0 0 none 0 0 := by rw [hW]; exact MBox.new w 0 0 none 0 0 _
  have hsz : W.heap.size = w.heap.size + 1 := by rw [hW]; simp
  have CL := hideP (vCloneN (.slice p n cap) xs W (hr.later b0) (by omega))
  have HW := hideP hW
  clear hW hr
  go_enter Tryz.func9, Tryz.ntmps9
  go_wp2_with fail
  rw [← HW.out]
  refine (fits_any _ _ _ _).mono ?_
  rintro e w1 ⟨rfl, rfl⟩
  rw [h]
  go_wp2_with fail
  refine CL.out.mono ?_
  rintro e w2 ⟨u, rfl, hR, hF, h2⟩
  obtain ⟨p', cap', rfl, _, _⟩ := hR.cut
  rw [hn] at hR hF ⊢
  have HR := hideP hR
  have HF := hideP hF
  obtain ⟨c0, c1, c2, f0, f1, f2, lt⟩ := x0.later h2
  clear hR hF CL
  go_wp2
  simp [bodyPost, results, Tryz.results9, go_sem, c0, c1, c2]
  refine ⟨p', cap', ⟨rfl, rfl⟩, ⟨((HR.out.set _ ?_).set _ ?_).set _ ?_, fun g hg => ?_⟩, Bl.put3 (b0.trans h2) (Nat.le_refl _) _ _ _⟩
  · exact fun g hg => by have := HF.out g hg; show w.heap.size + 1 ≤ g; omega
  · exact fun g hg => by have := HF.out g hg; show w.heap.size + 1 ≤ g; omega
  · exact fun g hg => by have := HF.out g hg; show w.heap.size + 1 ≤ g; omega
  · have := HF.out g hg; omega
theorem mWholeN_no (r c : Int) (p : Option Addr) (n cap : Nat) (w : World) (h : fitB r c n = false) :
    Calls Tryz.prog 21 #[.int .i64 r, .int .i64 c, .slice p n cap] w fun e w' => e = .returned (.tuple #[mV 0 0 none 0 0, .bool false]) ∧ Bl w w' := by
  go_enter Tryz.func21, Tryz.ntmps21
  go_wp2_with fail
  refine (fits_any _ _ _ _).mono ?_
  rintro e w1 ⟨rfl, rfl⟩
  rw [h]
  go_wp2
  simp [bodyPost, results, Tryz.results21, go_sem]
  exact (Bl.refl _).alloc _
theorem mWholeN (r c : Int) (p : Option Addr) (n cap : Nat) (ns : List Int) (w : World) (hr : Rq 1 (fun n => [.int .i64 n]) w (.slice p n cap) ns) (h : fitB r c n = true) (hn : ns.length = n) :
    Calls Tryz.prog 21 #[.int .i64 r, .int .i64 c, .slice p n cap] w fun e w' => ∃ p' cap', e = .returned (.tuple #[mV r c p' n cap', .bool true]) ∧ Rw 4 cellsN w' (.slice p' n cap') (ns.map wholeN) ∧ Bl w w' := by
  have hl : n ≤ 1000000 := by obtain ⟨R, C, _, _, hd, rfl⟩ := fitB_nat h; have := hd.lt; omega
  obtain ⟨W, hW⟩ : ∃ W, W = w.alloc (.cells #[.int .i64 0, .int .i64 0, .slice none 0 0] 24) := ⟨_, rfl⟩
  have b0 : Bl w W := by rw [hW]; exact (Bl.refl _).alloc _
  have x0 : MBox W w.heap.size 0 0 none 0 0 := by rw [hW]; exact MBox.new w 0 0 none 0 0 _
  have hsz : W.heap.size = w.heap.size + 1 := by rw [hW]; simp
  have CL := hideP (vWholeN' (.slice p n cap) ns W (hr.later b0) (by omega))
  have HW := hideP hW
  clear hW hr
  go_enter Tryz.func21, Tryz.ntmps21
  go_wp2_with fail
  rw [← HW.out]
  refine (fits_any _ _ _ _).mono ?_
  rintro e w1 ⟨rfl, rfl⟩
  rw [h]
  go_wp2_with fail
  refine CL.out.mono ?_
  rintro e w2 ⟨u, rfl, hR, hF, h2⟩
  obtain ⟨p', cap', rfl, _, _⟩ := hR.cut
  rw [List.length_map, hn] at hR hF ⊢
  have HR := hideP hR
  have HF := hideP hF
  obtain ⟨c0, c1, c2, f0, f1, f2, lt⟩ := x0.later h2
  clear hR hF CL
  go_wp2
  simp [bodyPost, results, Tryz.results21, go_sem, c0, c1, c2]
  refine ⟨p', cap', ⟨rfl, rfl⟩, ((HR.out.set _ ?_).set _ ?_).set _ ?_, Bl.put3 (b0.trans h2) (Nat.le_refl _) _ _ _⟩
  · exact fun g hg => by have := HF.out g hg; show w.heap.size + 1 ≤ g; omega
  · exact fun g hg => by have := HF.out g hg; show w.heap.size + 1 ≤ g; omega
  · exact fun g hg => by have := HF.out g hg; show w.heap.size + 1 ≤ g; omega
end Go.Proofs.YtlbmkjicbkfmjaaGreat

/- Contracts of mat's At, Row, of enclosed numbers (layer 6). Written by genMa.py. -/
namespace Go.Proofs.YtlbmkjicbkfmjaaGreat
open Go.RowKit
set_option linter.unusedSimpArgs false
set_option linter.unusedVariables false

theorem Tryz.info_MN : (Tryz.prog.info? 24).map (fun i => (i.zero, i.size, i.bytes)) = some (some (.agg #[.int .i64 0, .int .i64 0, .slice none 0 0]), 3, 40) := by kernel_rfl
theorem mAtN (R C : Nat) (p : Option Addr) (n cap : Nat) (f : Nat → Nat → En) (w : World) (h : Mx 4 cellsN w R C p n cap f) (i k : Nat) (hi : i < R) (hk : k < C) :
    Calls Tryz.prog 70 #[mV R C p n cap, .int .i64 i, .int .i64 k] w fun e w' => e = .returned (enV (f i k)) ∧ Bl w w' := by
  have hfit := h.fit
  obtain ⟨b, o, rfl, hc, hb, HC⟩ := h.cells
  obtain ⟨hd, hn, -⟩ := h
  have CX := HC i k hi hk
  clear HC
  have ha1 := amongB_t hi
  have ha2 := amongB_t hk
  obtain ⟨a, q, e1, e2, hq1, hq3, hq5, hq6⟩ := place hd hi hk
  rw [← e2] at CX
  rw [← hn] at hq5
  clear e1 e2
  generalize hx : f i k = x at *
  have y0 : ∀ u, Bl w u → u.cell? ⟨b, o + q * 4, none⟩ = some (.int .i64 x.v) := fun u hu => (bl_cell hu _ _ hb).trans (CX 0 _ rfl)
  have y1 : ∀ u, Bl w u → u.cell? ⟨b, o + q * 4 + 1, none⟩ = some (.int .i64 x.l) := fun u hu => (bl_cell hu _ _ hb).trans (CX 1 _ rfl)
  have y2 : ∀ u, Bl w u → u.cell? ⟨b, o + q * 4 + 2, none⟩ = some (.int .i64 x.h) := fun u hu => (bl_cell hu _ _ hb).trans (CX 2 _ rfl)
  have y3 : ∀ u, Bl w u → u.cell? ⟨b, o + q * 4 + 3, none⟩ = some (.bool x.bad) := fun u hu => (bl_cell hu _ _ hb).trans (CX 3 _ rfl)
  clear CX hx
  have h16 := hd.lt
  rw [← hn] at h16
  clear hn
  obtain ⟨W, hW⟩ : ∃ W, W = (w.alloc (.cells #[.int .i64 R, .int .i64 C, .slice (some ⟨b, o, none⟩) n cap] 24)).alloc (.cells #[.int .i64 0, .int .i64 0, .int .i64 0, .bool false] 28) := ⟨_, rfl⟩
  have b0 : Bl w W := by rw [hW]; exact ((Bl.refl _).alloc _).alloc _
  have m0 : MBox W w.heap.size R C (some ⟨b, o, none⟩) n cap := by rw [hW]; exact (MBox.new w _ _ _ _ _ _).later ((Bl.refl _).alloc _)
  have x0 : Box W (w.heap.size + 1) zeroE := by rw [hW]; have := Box.new (w.alloc (.cells #[.int .i64 R, .int .i64 C, .slice (some ⟨b, o, none⟩) n cap] 24)) zeroE 28; rw [World.size_alloc] at this; exact this
  have HW := hideP hW
  clear hW
  go_enter Tryz.func70, Tryz.ntmps70
  go_wp2_with fail
  rw [← HW.out]
  refine (mRightN _ _ _ _ _ _).mono ?_
  rintro e w1 ⟨rfl, h1⟩
  rw [hfit]
  obtain ⟨c0, c1, c2, f0, f1, f2, lt⟩ := m0.later h1
  go_wp2_with fail
  refine (among_any _ _ _).mono ?_
  rintro e w2 ⟨rfl, rfl⟩
  rw [ha1]
  go_wp2_with fail
  refine (among_any _ _ _).mono ?_
  rintro e w3 ⟨rfl, rfl⟩
  rw [ha2]
  have z0 := y0 _ (b0.trans h1)
  have z1 := y1 _ (b0.trans h1)
  have z2 := y2 _ (b0.trans h1)
  have z3 := y3 _ (b0.trans h1)
  obtain ⟨d0, d1, d2, d3, g0, g1, g2, g3, lt2⟩ := x0.later h1
  clear y0 y1 y2 y3
  go_wp2
  simp [bodyPost, results, Tryz.results70, go_sem, d0, d1, d2, d3]
  exact Bl.set4 (b0.trans h1) (Nat.le_succ _) _ _ _ _
theorem mAtN_no (R C : Nat) (p : Option Addr) (n cap : Nat) (w : World) (hfit : fitB R C n = true) (i k : Int) (h : ¬ ((0 ≤ i ∧ i < R) ∧ (0 ≤ k ∧ k < C))) :
    Calls Tryz.prog 70 #[mV R C p n cap, .int .i64 i, .int .i64 k] w fun e w' => e = .returned (enV zeroE) ∧ Bl w w' := by
  obtain ⟨W, hW⟩ : ∃ W, W = (w.alloc (.cells #[.int .i64 R, .int .i64 C, .slice p n cap] 24)).alloc (.cells #[.int .i64 0, .int .i64 0, .int .i64 0, .bool false] 28) := ⟨_, rfl⟩
  have b0 : Bl w W := by rw [hW]; exact ((Bl.refl _).alloc _).alloc _
  have m0 : MBox W w.heap.size R C p n cap := by rw [hW]; exact (MBox.new w _ _ _ _ _ _).later ((Bl.refl _).alloc _)
  have x0 : Box W (w.heap.size + 1) zeroE := by rw [hW]; have := Box.new (w.alloc (.cells #[.int .i64 R, .int .i64 C, .slice p n cap] 24)) zeroE 28; rw [World.size_alloc] at this; exact this
  have HW := hideP hW
  clear hW
  by_cases hi : 0 ≤ i ∧ i < R
  · have ha1 : amongB i R = true := decide_eq_true hi
    have ha2 : amongB k C = false := amongB_f (fun hk => h ⟨hi, hk⟩)
    go_enter Tryz.func70, Tryz.ntmps70
    go_wp2_with fail
    rw [← HW.out]
    refine (mRightN _ _ _ _ _ _).mono ?_
    rintro e w1 ⟨rfl, h1⟩
    rw [hfit]
    obtain ⟨c0, c1, c2, f0, f1, f2, lt⟩ := m0.later h1
    go_wp2_with fail
    refine (among_any _ _ _).mono ?_
    rintro e w2 ⟨rfl, rfl⟩
    rw [ha1]
    go_wp2_with fail
    refine (among_any _ _ _).mono ?_
    rintro e w3 ⟨rfl, rfl⟩
    rw [ha2]
    obtain ⟨d0, d1, d2, d3, g0, g1, g2, g3, lt2⟩ := x0.later (h1.trans ((Bl.refl _).alloc (.cells #[.int .i64 0, .int .i64 0, .int .i64 0, .bool false] 28)))
    go_wp2
    simp [bodyPost, results, Tryz.results70, go_sem, d0, d1, d2, d3]
    exact ⟨by decide, Bl.set4 ((b0.trans h1).alloc _) (Nat.le_succ _) _ _ _ _⟩
  · have ha1 : amongB i R = false := amongB_f hi
    go_enter Tryz.func70, Tryz.ntmps70
    go_wp2_with fail
    rw [← HW.out]
    refine (mRightN _ _ _ _ _ _).mono ?_
    rintro e w1 ⟨rfl, h1⟩
    rw [hfit]
    obtain ⟨c0, c1, c2, f0, f1, f2, lt⟩ := m0.later h1
    go_wp2_with fail
    refine (among_any _ _ _).mono ?_
    rintro e w2 ⟨rfl, rfl⟩
    rw [ha1]
    obtain ⟨d0, d1, d2, d3, g0, g1, g2, g3, lt2⟩ := x0.later (h1.trans ((Bl.refl _).alloc (.cells #[.int .i64 0, .int .i64 0, .int .i64 0, .bool false] 28)))
    go_wp2
    simp [bodyPost, results, Tryz.results70, go_sem, d0, d1, d2, d3]
    exact ⟨by decide, Bl.set4 ((b0.trans h1).alloc _) (Nat.le_succ _) _ _ _ _⟩
/-- A part of a row, as the program takes it. -/
theorem Tryz.partN (b o n cap lo hi : Nat) (w : World) (h1 : lo ≤ hi) (h2 : hi ≤ n) (h3 : n ≤ cap) (h4 : lo < cap) : (Instr.sliceAt 22 (.slice (some ⟨b, o, none⟩) n cap) (some (.int .i64 lo)) (some (.int .i64 hi)) none).run Tryz.prog w = .ok (.slice (some ⟨b, o + lo * 4, none⟩) (hi - lo) (cap - lo)) w := by
  have hu : Tryz.prog.underlying 22 = some (.slice (Tryz.prog.elem 22)) := by kernel_rfl
  obtain ⟨i0, hi0, hz0, hz1, hz2⟩ := info_parts Tryz.info_N
  have he : Tryz.prog.elem 22 = 28 := by kernel_rfl
  rw [run_sliceAt_slice (h := hu), run_slice_lh (ht := hu) (h0 := by omega) (h1 := by omega) (h2 := by omega), he]
  have hcm : ¬ cap = lo := by omega
  have hcm' : ¬ cap ≤ lo := by omega
  simp [sizeOf, typeInfo, hi0, sliced, Result.andThen, hz1, hcm, hcm', Addr.add]
theorem mRowN (R C : Nat) (p : Option Addr) (n cap : Nat) (f : Nat → Nat → En) (w : World) (h : Mx 4 cellsN w R C p n cap f) (i : Nat) (hi : i < R) :
    Calls Tryz.prog 129 #[mV R C p n cap, .int .i64 i] w fun e w' => ∃ p' cap', e = .returned (.slice p' C cap') ∧ (Rw 4 cellsN w' (.slice p' C cap') (rowM C f i) ∧ Fresh w.heap.size (.slice p' C cap') ∧ C ≤ cap') ∧ Bl w w' := by
  have hfit := h.fit
  obtain ⟨b, o, rfl, hc, hb, -⟩ := h.cells
  obtain ⟨hd, hn, hR⟩ := h
  have ha1 := amongB_t hi
  have h16 := hd.lt
  have hi16 : i < 16 := Nat.lt_of_lt_of_le hi hd.r2
  have hC16 := hd.c2
  have hC1 := hd.c1
  obtain ⟨a, e, e1, e2, hq1, hq3, hq5, hq6, hq7⟩ := places hd hi
  have hpt : Rq 4 cellsN w (.slice (some ⟨b, o + a * 4, none⟩) C (cap - a)) (rowM C f i) := by
    have := hR.part (lo := a) (m := C) (by rw [mk_len, hn]) (by omega) (by omega) (cap - a) (by omega)
    rw [e1, mk_row f hi] at this
    rw [e1]
    exact this
  have sl := fun u => Tryz.partN b o n cap a e u (by omega) (by omega) hc (by omega)
  rw [show e - a = C by omega] at sl
  have HP := hideP hpt
  rw [← hn] at h16 hq5
  clear hR hpt e1 e2 hn
  obtain ⟨W, hW⟩ : ∃ W, W = (w.alloc (.cells #[.int .i64 R, .int .i64 C, .slice (some ⟨b, o, none⟩) n cap] 24)) := ⟨_, rfl⟩
  have b0 : Bl w W := by rw [hW]; exact (Bl.refl _).alloc _
  have m0 : MBox W w.heap.size R C (some ⟨b, o, none⟩) n cap := by rw [hW]; exact MBox.new w _ _ _ _ _ _
  have HW := hideP hW
  clear hW
  go_enter Tryz.func129, Tryz.ntmps129
  go_wp2_with fail
  rw [← HW.out]
  refine (mRightN _ _ _ _ _ _).mono ?_
  rintro e w1 ⟨rfl, h1⟩
  rw [hfit]
  obtain ⟨c0, c1, c2, f0, f1, f2, lt⟩ := m0.later h1
  go_wp2_with fail
  refine (among_any _ _ _).mono ?_
  rintro e w2 ⟨rfl, rfl⟩
  rw [ha1]
  go_wp2_with fail
  refine (vCloneN _ (rowM C f i) _ (HP.out.later (b0.trans h1)) (by rw [rowM_len]; omega)).mono ?_
  rintro e w3 ⟨u, rfl, hR, hF, h3⟩
  obtain ⟨p', cap', rfl, hcl, _⟩ := hR.cut
  rw [rowM_len] at hR hF hcl ⊢
  have HR := hideP hR
  have HF := hideP hF
  clear hR hF
  go_wp2
  go_ret
  exact ⟨p', cap', rfl, ⟨HR.out, fun g hg => by have := HF.out g hg; have := (b0.trans h1).size; omega, hcl⟩, (b0.trans h1).trans h3⟩
theorem mRowN_no (R C : Nat) (p : Option Addr) (n cap : Nat) (w : World) (hfit : fitB R C n = true) (i : Int) (h : ¬ (0 ≤ i ∧ i < R)) :
    Calls Tryz.prog 129 #[mV R C p n cap, .int .i64 i] w fun e w' => e = .returned (.slice none 0 0) ∧ Bl w w' := by
  have ha1 : amongB i R = false := amongB_f h
  obtain ⟨W, hW⟩ : ∃ W, W = (w.alloc (.cells #[.int .i64 R, .int .i64 C, .slice p n cap] 24)) := ⟨_, rfl⟩
  have b0 : Bl w W := by rw [hW]; exact (Bl.refl _).alloc _
  have m0 : MBox W w.heap.size R C p n cap := by rw [hW]; exact MBox.new w _ _ _ _ _ _
  have HW := hideP hW
  clear hW
  go_enter Tryz.func129, Tryz.ntmps129
  go_wp2_with fail
  rw [← HW.out]
  refine (mRightN _ _ _ _ _ _).mono ?_
  rintro e w1 ⟨rfl, h1⟩
  rw [hfit]
  obtain ⟨c0, c1, c2, f0, f1, f2, lt⟩ := m0.later h1
  go_wp2_with fail
  refine (among_any _ _ _).mono ?_
  rintro e w2 ⟨rfl, rfl⟩
  rw [ha1]
  go_wp2
  go_ret
  exact ⟨rfl, b0.trans h1⟩
end Go.Proofs.YtlbmkjicbkfmjaaGreat

/- Contracts of mat's filled, Turn, of enclosed numbers (layer 6). Written by genMa.py. -/
namespace Go.Proofs.YtlbmkjicbkfmjaaGreat
open Go.RowKit
set_option linter.unusedSimpArgs false
set_option linter.unusedVariables false

set_option maxHeartbeats 1000000 in
/-- A matrix that is filled by what a function tells of each place. -/
theorem mFilledN (G mb : Nat) (eg : ∀ (args : Array Value) (w : World), (callFunc G args).run Tryz.prog w = .ok (.enter G args) w) (f : Nat → Nat → En) (R C n : Nat) (hd : Dim R C) (hn : n = R * C) (w : World)
    (hG : ∀ i k u, i < R → k < C → Bl w u → Calls Tryz.prog G #[.int .i64 i, .int .i64 k, .pointer (some ⟨mb, 0, none⟩)] u fun e w' => e = .returned (enV (f i k)) ∧ Bl u w') :
    Calls Tryz.prog 68 #[.int .i64 R, .int .i64 C, .func (.func G) #[] #[.pointer (some ⟨mb, 0, none⟩)]] w fun e w' => ∃ p' cap', e = .returned (mV R C p' n cap') ∧ (Rw 4 cellsN w' (.slice p' n cap') (mk R C f) ∧ Fresh w.heap.size (.slice p' n cap')) ∧ Bl w w' := by
  obtain ⟨i0, hi, hz0, hz1, hz2⟩ := info_parts Tryz.info_N
  have hRC : (R : Int) * (C : Int) = n := by rw [hn]; simp
  have hn256 : n ≤ 256 := by rw [hn]; exact hd.lt
  have hR16 := hd.r2
  have hC16 := hd.c2
  have HG := hideP hG
  have HN := hideP hn
  clear hG hn
  have z0 := MBox.new w 0 0 none 0 0 24
  go_enter Tryz.func68, Tryz.ntmps68
  go_wp2_with (at_make; refine wpList_make_own _ rfl _ _ 22 rfl (w.heap.size + 1) 28 i0 (.agg #[.int .i64 0, .int .i64 0, .int .i64 0, .bool false]) 4 Tryz.underlying22 hi hz0 hz1 .i64 .i64 _ n rfl rfl (by simp) (by rw [hz2]; omega) (by unfold maxLen; omega) (by simp) ?_; intro w0 hown0 hgrow0)
  have hB0 : Bl w w0 := ((Bl.refl w).alloc _).grown hgrow0 (by simp) (fun k e => by cases e)
  have hz : MBox w0 w.heap.size 0 0 none 0 0 := mbox_block z0 (hgrow0.block _ z0.lt nofun) hgrow0.size
  clear hgrow0 z0
  go_loopw [7, 15] (fun v i wr => ∃ j : Nat, i = .int .i64 j ∧ j ≤ R ∧ wr.ownsRow (w.heap.size + 1) 28 4 v (mk j C f).length ((mk j C f).flatMap cellsN) ∧ MBox wr w.heap.size 0 0 none 0 0 ∧ Bl w wr) (fun _ i _ => R - (intOf i).toNat)
  case atStart => exact ⟨0, rfl, Nat.zero_le _, by rw [World.size_alloc] at hown0; exact hown0, hz, hB0⟩
  case round =>
    clear hown0 hz hB0
    obtain ⟨j, rfl, hj, hown, hz, hB⟩ := hrel
    by_cases hlt : j < R
    · go_wp2_with fail
      go_loopw [7, 19] (fun v i wr => ∃ k : Nat, i = .int .i64 k ∧ k ≤ C ∧ wr.ownsRow (w.heap.size + 1) 28 4 v (mk j C f ++ rowM k f j).length ((mk j C f ++ rowM k f j).flatMap cellsN) ∧ MBox wr w.heap.size 0 0 none 0 0 ∧ Bl w wr) (fun _ i _ => C - (intOf i).toNat)
      case atStart => exact ⟨0, rfl, Nat.zero_le _, by simpa [rowM] using hown, hz, hB⟩
      case round =>
        clear hown hz hB
        obtain ⟨k, rfl, hk, hown, hz, hB⟩ := hrel
        by_cases hlt2 : k < C
        · have HT := hideP (show mk j C f ++ rowM (k + 1) f j = (mk j C f ++ rowM k f j) ++ [f j k] by rw [rowM_succ, List.append_assoc])
          have hlen : (mk j C f ++ rowM k f j).length ≤ 256 := by
            have h1 : j * C + k < R * C := mk_idx hlt hlt2
            have := HN.out
            rw [List.length_append, mk_len, rowM_len]
            omega
          have G1 := hideP (HG.out j k _ hlt hlt2 hB)
          generalize mk j C f ++ rowM k f j = ys at *
          generalize f j k = x at *
          go_wp2_with fail
          refine G1.out.mono ?_
          rintro e w2 ⟨rfl, h2⟩
          replace hown := own_blN hown h2
          replace hz := hz.later h2
          replace hB := hB.trans h2
          have hys := hlen
          clear G1
          go_wp2_with (at_builtin; refine wpList_append_own _ rfl _ _ 22 rfl (w.heap.size + 1) 28 i0 (.agg #[.int .i64 0, .int .i64 0, .int .i64 0, .bool false]) 4 32 Tryz.underlying22 hi hz0 hz1 hz2 rfl (by decide) _ _ _ rfl (hown.alloc _) ⟨_, 0, none⟩ 1 1 (cellsN x) rfl rfl (newN_cells _ _ _) (oneN_cells _) (by unfold maxLen; omega) (by omega) (by have := hB.size; have := hz.lt; simp; omega) ?_; intro v' w1 hown' hgrow _)
          have R1 := own_more (ys := [x]) (hB.alloc _) (Nat.le_succ _) (hown.alloc _) (by simpa using hown') rfl hgrow
          have Z1 := (hz.later ((Bl.refl _).alloc _)).grown (hown.alloc _) hgrow (Nat.lt_succ_self _)
          clear hown hown' hgrow hz
          go_wp2
          go_roundw
          case rel => exact ⟨k + 1, by simp, hlt2, by rw [HT.out]; exact R1.2, Z1, R1.1⟩
          case measure => simp [intOf]; omega
        · obtain rfl : k = C := by omega
          have HT := hideP (mk_succ j k f)
          go_wp2_with fail
          go_roundw
          case rel => exact ⟨j + 1, by simp, hlt, by rw [HT.out]; exact hown, hz, hB⟩
          case measure => simp [intOf]; omega
    · obtain rfl : j = R := by omega
      have RW := hideP (Rw.of_own cellsN_len hown)
      have FR := hideP (show Fresh (w.heap.size + 1) _ from fun g hg => (hown.lt g hg).1)
      obtain ⟨p', cap', hv, hcc, _⟩ := RW.out.cut
      rw [mk_len, ← HN.out] at hv
      have HV := hideP hv
      clear hv
      obtain ⟨c0, c1, c2, f0, f1, f2, lt⟩ := hz
      clear hown
      rename_i v
      obtain rfl := HV.out
      go_wp2
      simp [bodyPost, results, Tryz.results68, go_sem, c0, c1, c2]
      refine ⟨p', cap', ⟨rfl, rfl⟩, ⟨((RW.out.set _ FR.out).set _ FR.out).set _ FR.out, fun g hg => by have := FR.out g hg; omega⟩, Bl.put3 hB (Nat.le_refl _) _ _ _⟩
theorem mTurn1N (R C : Nat) (p : Option Addr) (n cap : Nat) (f : Nat → Nat → En) (w : World) (h : Mx 4 cellsN w R C p n cap f) (mb : Nat) (hm : MBox w mb R C p n cap) (i k : Nat) (hi : i < C) (hk : k < R) :
    Calls Tryz.prog 136 #[.int .i64 i, .int .i64 k, .pointer (some ⟨mb, 0, none⟩)] w fun e w' => e = .returned (enV (f k i)) ∧ Bl w w' := by
  have A := hideP (fun u (hu : Bl w u) => mAtN R C p n cap f u (h.later hu) k i hk hi)
  obtain ⟨W, hW⟩ : ∃ W, W = w.alloc (.cells #[.int .i64 0, .int .i64 0, .int .i64 0, .bool false] 28) := ⟨_, rfl⟩
  have b0 : Bl w W := by rw [hW]; exact (Bl.refl _).alloc _
  have x0 : Box W w.heap.size zeroE := by rw [hW]; exact Box.new w zeroE 28
  obtain ⟨c0, c1, c2, f0, f1, f2, lt⟩ := hm
  have HW := hideP hW
  clear hW h
  generalize f k i = x at *
  go_enter Tryz.func136, Tryz.ntmps136
  go_wp2_with fail
  rw [← HW.out]
  refine (A.out _ b0).mono ?_
  rintro e w1 ⟨rfl, h1⟩
  clear c0 c1 c2 f0 f1 f2 A
  obtain ⟨d0, d1, d2, d3, g0, g1, g2, g3, lt2⟩ := x0.later h1
  go_wp2
  simp [bodyPost, results, Tryz.results136, go_sem, d0, d1, d2, d3]
  exact Bl.set4 (b0.trans h1) (Nat.le_refl _) _ _ _ _
theorem mTurnN (R C : Nat) (p : Option Addr) (n cap : Nat) (f : Nat → Nat → En) (w : World) (h : Mx 4 cellsN w R C p n cap f) :
    Calls Tryz.prog 95 #[mV R C p n cap] w fun e w' => ∃ p' cap', e = .returned (mV C R p' n cap') ∧ (Mx 4 cellsN w' C R p' n cap' (fun i k => f k i) ∧ Rw 4 cellsN w' (.slice p' n cap') (mk C R (fun i k => f k i)) ∧ Fresh w.heap.size (.slice p' n cap')) ∧ Bl w w' := by
  have hfit := h.fit
  obtain ⟨W, hW⟩ : ∃ W, W = (w.alloc (.cells #[.int .i64 R, .int .i64 C, .slice p n cap] 24)).alloc (.cells #[.int .i64 0, .int .i64 0, .slice none 0 0] 24) := ⟨_, rfl⟩
  have b0 : Bl w W := by rw [hW]; exact ((Bl.refl _).alloc _).alloc _
  have m0 : MBox W w.heap.size R C p n cap := by rw [hW]; exact (MBox.new w _ _ _ _ _ _).later ((Bl.refl _).alloc _)
  have x0 : MBox W (w.heap.size + 1) 0 0 none 0 0 := by rw [hW]; have := MBox.new (w.alloc (.cells #[.int .i64 R, .int .i64 C, .slice p n cap] 24)) 0 0 none 0 0 24; rw [World.size_alloc] at this; exact this
  have hs : W.heap.size = w.heap.size + 1 + 1 := by rw [hW]; simp
  have FI := hideP (fun u (hu : Bl W u) => mFilledN 136 w.heap.size (enters_of Tryz.func136 (by kernel_rfl) rfl) (fun i k => f k i) C R n h.1.turn (by rw [h.2.1, Nat.mul_comm]) u
    (fun i k v hi hk hv => mTurn1N R C p n cap f v (h.later (b0.trans (hu.trans hv))) _ (m0.later (hu.trans hv)) i k hi hk))
  have HD := hideP h
  have HW := hideP hW
  clear hW h
  go_enter Tryz.func95, Tryz.ntmps95
  go_wp2_with fail
  rw [← HW.out]
  refine (mRightN _ _ _ _ _ _).mono ?_
  rintro e w1 ⟨rfl, h1⟩
  rw [hfit]
  obtain ⟨c0, c1, c2, f0, f1, f2, lt⟩ := m0.later h1
  go_wp2_with fail
  refine (FI.out _ h1).mono ?_
  rintro e w2 ⟨p', cap', rfl, ⟨hR, hF⟩, h2⟩
  have HR := hideP hR
  have HF := hideP (show Fresh (w.heap.size + 1 + 1) (.slice p' n cap') from fun g hg => by have := hF g hg; have := h1.size; omega)
  clear hR hF FI c0 c1 c2 f0 f1 f2
  obtain ⟨c0, c1, c2, f0, f1, f2, lt2⟩ := x0.later (h1.trans h2)
  go_wp2
  simp [bodyPost, results, Tryz.results95, go_sem, c0, c1, c2]
  have q := ((HR.out.set (p := ⟨w.heap.size + 1, 0, none⟩) (.int .i64 C) HF.out).set (p := ⟨w.heap.size + 1, 1, none⟩) (.int .i64 R) HF.out).set (p := ⟨w.heap.size + 1, 2, none⟩) (.slice p' n cap') HF.out
  refine ⟨p', cap', ⟨rfl, rfl⟩, ⟨⟨HD.out.1.turn, by rw [HD.out.2.1, Nat.mul_comm], q.q⟩, q, fun g hg => by have := HF.out g hg; omega⟩, Bl.put3 ((b0.trans h1).trans h2) (Nat.le_succ _) _ _ _⟩
end Go.Proofs.YtlbmkjicbkfmjaaGreat

/- Contracts of mat's All, and of what it tells: an iterator over a matrix's rows, of enclosed numbers (layer 6). Written by genMa.py. -/
namespace Go.Proofs.YtlbmkjicbkfmjaaGreat
open Go.RowKit Go.Shelf
set_option linter.unusedSimpArgs false
set_option linter.unusedVariables false
attribute [local go_sem] Oper.semAt_some
theorem mAllN (R C : Nat) (p : Option Addr) (n cap : Nat) (f : Nat → Nat → En) (w : World) (h : Mx 4 cellsN w R C p n cap f) :
    Calls Tryz.prog 87 #[mV R C p n cap] w fun e w' => ∃ B p' cap', e = .returned (.func (.func 128) #[] #[.pointer (some ⟨B, 0, none⟩)]) ∧ KeptIn 4 cellsN w' w.heap.size w'.heap.size B R C p' n cap' f ∧ Bl w w' := by
  have hfit := h.fit
  obtain ⟨W, hW⟩ : ∃ W, W = (w.alloc (.cells #[.int .i64 R, .int .i64 C, .slice p n cap] 24)) := ⟨_, rfl⟩
  have b0 : Bl w W := by rw [hW]; exact (Bl.refl _).alloc _
  have m0 : MBox W w.heap.size R C p n cap := by rw [hW]; exact MBox.new w _ _ _ _ _ _
  have NW := hideP (mNewN R C p n cap (mk R C f) W (h.2.2.later b0) hfit (by rw [mk_len, h.2.1]))
  have HD := hideP h
  obtain ⟨c0, c1, c2, f0, f1, f2, lt⟩ := m0
  have HW := hideP hW
  clear hW h
  go_enter Tryz.func87, Tryz.ntmps87
  go_wp2_with fail
  rw [← HW.out]
  refine NW.out.mono ?_
  rintro e w1 ⟨p', cap', rfl, ⟨hR, hF⟩, h1⟩
  have HR := hideP hR
  have HF := hideP hF
  clear hR hF NW c0 c1 c2 f0 f1 f2
  go_wp2
  go_ret
  have hb : Bl w w1 := b0.trans h1
  refine ⟨w1.heap.size, p', cap', rfl, ?_, hb.alloc _⟩
  exact ⟨HD.out.1, HD.out.2.1, MBox.new w1 _ _ _ _ _ _, hb.size, by simp, HR.out.later ((Bl.refl _).alloc _), fun g hg => ⟨by have := HF.out g hg; have := b0.size; omega, by have := HR.out.lt g hg; simp; omega⟩⟩
theorem Tryz.yieldMN (l : Nat) (w : World) : (binOp .eql 155 (.func (.yield l) #[] #[]) .nilFunc).run Tryz.prog w = .ok (.bool false) w := by kernel_rfl
set_option maxRecDepth 100000 in
set_option maxHeartbeats 2000000 in
theorem iterMN (m l B lo hi R C : Nat) (p : Option Addr) (n cap : Nat) (f : Nat → Nat → En) (J Jx : List RowX → World → Prop) (W : World) (hJ : AbidesFrom W.heap.size J) (hh : hi ≤ W.heap.size)
    (hY : ∀ pre x W0 W1, J pre W0 → RowOk 4 cellsN R C f x W0 W1 → pre.length < R → YieldAt Fence.wide (m - 1) Tryz.prog l #[.int .i64 x.1, rowV C x] W1 fun e W' =>
      (e = .returned (.bool true) ∧ J (pre ++ [x]) W' ∧ Span lo hi W1 W') ∨ (e = .returned (.bool false) ∧ Jx (pre ++ [x]) W'))
    (hP : KeptIn 4 cellsN W lo hi B R C p n cap f) (h0 : J [] W) :
    CallsIn Fence.wide m Tryz.prog 128 #[.func (.yield l) #[] #[], .pointer (some ⟨B, 0, none⟩)] W fun e W' => (∃ v, e = .returned v) ∧
      ((∃ zs : List RowX, zs.map (·.1) = List.range R ∧ J zs W') ∨ (∃ pre : List RowX, pre.map (·.1) <+: List.range R ∧ Jx pre W')) := by
  have yn := Tryz.yieldMN l
  have HP := hideP hP
  have hR16 := hP.hd.r2
  obtain ⟨c0, c1, c2, f0, f1, f2, lt⟩ := hP.box
  clear hP
  refine callsIn_of_wp Tryz.func128 rfl trivial ?_ rfl
  simp only [Tryz.ntmps128, List.size_toArray, List.length_cons, List.length_nil, Nat.reduceAdd, Nat.reduceSub, Array.replicate_succ, Array.replicate_zero, List.push_toArray, List.append_toArray, List.nil_append, List.cons_append]
  gi_wp2
  clear c0 c1 c2 f0 f1 f2
  gi_loopw [8] (fun i wr => ∃ (k : Nat) (pre : List RowX), k ≤ R ∧ i = .int .i64 k ∧ pre.map (·.1) = List.range k ∧ J pre wr ∧ Span lo hi W wr) (fun i _ => R - (intOf i).toNat)
  case atStart => exact ⟨0, [], Nat.zero_le _, rfl, rfl, h0, Span.refl _ _ _⟩
  case round =>
    obtain ⟨k, pre, hk, rfl, hpre, hJs, hsp⟩ := hrel
    have hlen : pre.length = k := by have := congrArg List.length hpre; simpa using this
    have HPR := hideP hpre
    clear hpre
    by_cases hlt : k < R
    · have HKK := hideP (HP.out.later hsp)
      obtain ⟨c0, c1, c2, f0, f1, f2, lt⟩ := HKK.out.box
      gi_wp2_with fail
      refine ⟨trivial, fun h => (by cases h), ?_⟩
      refine (callsIn_wide.2 (mRowN R C p n cap f _ HKK.out.mx k hlt)).mono ?_
      rintro e w1 ⟨p', cap', rfl, ⟨hR, hF, hcc⟩, h1⟩
      obtain ⟨fn, tmps, assign, body, hyd, hR2⟩ := hY pre (k, p', cap') _ w1 hJs ⟨h1, hlt, hR, hF, hcc⟩ (by omega)
      dsimp only at hyd
      clear c0 c1 c2 f0 f1 f2 hR hF
      have hR3 : RoundIn Fence.wide (m - 1) Tryz.prog l fn tmps assign body w1 fun e W' => ∃ r : Bool, e = .returned (.bool r) ∧ ((r = true ∧ J (pre ++ [(k, p', cap')]) W' ∧ Span lo hi w1 W') ∨ (r = false ∧ Jx (pre ++ [(k, p', cap')]) W')) := by
        refine hR2.mono ?_
        rintro e W' (⟨rfl, h1, h2⟩ | ⟨rfl, h1⟩)
        · exact ⟨true, rfl, .inl ⟨rfl, h1, h2⟩⟩
        · exact ⟨false, rfl, .inr ⟨rfl, h1⟩⟩
      gi_wp2_with fail
      refine ⟨fun h => (by cases h), ?_⟩
      refine hR3.mono ?_
      rintro e W3 ⟨r, rfl, hr⟩
      have sp1 : Span lo hi W w1 := hsp.trans (h1.span (by have := hsp.size; omega))
      have HT := hideP (show (pre ++ [((k, p', cap') : RowX)]).map (·.1) = List.range (k + 1) by rw [List.map_append, HPR.out, List.range_succ]; rfl)
      rcases hr with ⟨rfl, hJ3, hk3⟩ | ⟨rfl, hJx3⟩
      · gi_wp2
        go_roundw
        case rel => exact ⟨k + 1, _, by omega, by simp, HT.out, hJ3, sp1.trans hk3⟩
        case measure => simp [intOf]; omega
      · gi_wp2
        refine bodyPost_ret (results_none rfl _ _ _) rfl ?_
        exact ⟨⟨_, rfl⟩, .inr ⟨_, by rw [HT.out]; exact range_pre hlt, hJx3⟩⟩
    · obtain rfl : k = R := by omega
      have HJ := hideP hJs
      clear hJs
      gi_wp2
      go_end0
      exact ⟨⟨_, rfl⟩, .inl ⟨pre, HPR.out, HJ.out⟩⟩
/-- All's function as what a loop goes through: all rows in their order, or the first ones, where a round has said that it is enough. -/
theorem seqMN (m B lo hi R C : Nat) (p : Option Addr) (n cap : Nat) (f : Nat → Nat → En) (w : World) (hh : hi ≤ w.heap.size) (hP : KeptIn 4 cellsN w lo hi B R C p n cap f) :
    SeqV Fence.wide m Tryz.prog 128 #[.pointer (some ⟨B, 0, none⟩)] (fun x : RowX => #[.int .i64 x.1, rowV C x]) (RowOk 4 cellsN R C f) (Span lo hi) (fun zs => zs.map (·.1) = List.range R) (fun pre => pre.map (·.1) <+: List.range R) R w :=
  fun l J Jx W hW hJ _ hY h0 => iterMN m l B lo hi R C p n cap f J Jx W hJ (Nat.le_trans hh hW.size) hY (hP.later (Bl.span hW hh)) h0
end Go.Proofs.YtlbmkjicbkfmjaaGreat

/- Contracts of Clone, Row, All, New where what is told lies in a block of its own that may be changed, of enclosed numbers (layer 8). Written by genHu.py. -/
namespace Go.Proofs.YtlbmkjicbkfmjaaGreat
open Go.RowKit Go.Shelf
set_option linter.unusedSimpArgs false
set_option linter.unusedVariables false
attribute [local go_sem] Oper.semAt_some
set_option maxHeartbeats 1000000 in
theorem vCloneZN (v : Value) (xs : List En) (w : World) (h : Rq 4 cellsN w v xs) (hl : xs.length ≤ 1000000) (hne : xs ≠ []) :
    Calls Tryz.prog 40 #[v] w fun e w' => ∃ u, e = .returned u ∧ RwZ 4 cellsN w' w.heap.size u xs ∧ Bl w w' := by
  have n0 := Tryz.nil0N
  have n1 := Tryz.nil1N
  obtain ⟨i0, hi, hz0, hz1, hz2⟩ := info_parts Tryz.info_N
  rcases h with ⟨p, cap, rfl, rfl, hpn⟩ | ⟨b, o, cap, rfl, hc, hb, hx⟩
  · exact absurd rfl hne
  · have HX := hideP hx
    clear hx n0
    go_enter Tryz.func40, Tryz.ntmps40
    go_wp2_with (at_builtin; refine wpList_append_own _ rfl _ _ 22 rfl w.heap.size 28 i0 (.agg #[.int .i64 0, .int .i64 0, .int .i64 0, .bool false]) 4 32 Tryz.underlying22 hi hz0 hz1 hz2 rfl (by decide) _ 0 [] rfl (World.ownsRow_made w #[] 0 (Nat.le_refl _) (by decide) rfl) ⟨b, o, none⟩ xs.length cap (xs.flatMap cellsN) rfl (flat_len cellsN_len xs) (flat_cells cellsN_len ((Rw_cells_later HX.out hb ((Bl.refl _).alloc _)))) (flat_one oneN_cells xs) (by unfold maxLen; omega) (by omega) (by simp) ?_; intro v' w1 hown' hgrow _)
    have R := hideP (RwZ.of_own (xs := xs) cellsN_len (by simpa using hown') hne)
    have hB : Bl w w1 := Below.grown (Below.alloc (Bl.refl w) (Nat.le_refl _) _) hgrow (by simp) (fun k e => by cases e; exact Nat.le_refl _)
    clear hown' hgrow
    go_wp2
    go_ret
    exact ⟨_, rfl, R.out, hB⟩
theorem mRowZN (R C : Nat) (p : Option Addr) (n cap : Nat) (f : Nat → Nat → En) (w : World) (h : Mx 4 cellsN w R C p n cap f) (i : Nat) (hi : i < R) :
    Calls Tryz.prog 129 #[mV R C p n cap, .int .i64 i] w fun e w' => ∃ p' cap', e = .returned (.slice p' C cap') ∧ (RwZ 4 cellsN w' w.heap.size (.slice p' C cap') (rowM C f i) ∧ C ≤ cap') ∧ Bl w w' := by
  have hfit := h.fit
  obtain ⟨b, o, rfl, hc, hb, -⟩ := h.cells
  obtain ⟨hd, hn, hR⟩ := h
  have ha1 := amongB_t hi
  have h16 := hd.lt
  have hi16 : i < 16 := Nat.lt_of_lt_of_le hi hd.r2
  have hC16 := hd.c2
  have hC1 := hd.c1
  obtain ⟨a, e, e1, e2, hq1, hq3, hq5, hq6, hq7⟩ := places hd hi
  have hpt : Rq 4 cellsN w (.slice (some ⟨b, o + a * 4, none⟩) C (cap - a)) (rowM C f i) := by
    have := hR.part (lo := a) (m := C) (by rw [mk_len, hn]) (by omega) (by omega) (cap - a) (by omega)
    rw [e1, mk_row f hi] at this
    rw [e1]
    exact this
  have sl := fun u => Tryz.partN b o n cap a e u (by omega) (by omega) hc (by omega)
  rw [show e - a = C by omega] at sl
  have HP := hideP hpt
  rw [← hn] at h16 hq5
  clear hR hpt e1 e2 hn
  obtain ⟨W, hW⟩ : ∃ W, W = (w.alloc (.cells #[.int .i64 R, .int .i64 C, .slice (some ⟨b, o, none⟩) n cap] 24)) := ⟨_, rfl⟩
  have b0 : Bl w W := by rw [hW]; exact (Bl.refl _).alloc _
  have m0 : MBox W w.heap.size R C (some ⟨b, o, none⟩) n cap := by rw [hW]; exact MBox.new w _ _ _ _ _ _
  have HW := hideP hW
  clear hW
  go_enter Tryz.func129, Tryz.ntmps129
  go_wp2_with fail
  rw [← HW.out]
  refine (mRightN _ _ _ _ _ _).mono ?_
  rintro e w1 ⟨rfl, h1⟩
  rw [hfit]
  obtain ⟨c0, c1, c2, f0, f1, f2, lt⟩ := m0.later h1
  go_wp2_with fail
  refine (among_any _ _ _).mono ?_
  rintro e w2 ⟨rfl, rfl⟩
  rw [ha1]
  go_wp2_with fail
  refine (vCloneZN _ (rowM C f i) _ (HP.out.later (b0.trans h1)) (by rw [rowM_len]; omega) (by intro e; have := congrArg List.length e; rw [rowM_len] at this; simp at this; omega)).mono ?_
  rintro e w3 ⟨u, rfl, hR, h3⟩
  obtain ⟨p', cap', rfl, hcl, _⟩ := hR.rw.cut
  rw [rowM_len] at hR hcl ⊢
  have HR := hideP hR
  clear hR
  go_wp2
  go_ret
  exact ⟨p', cap', rfl, ⟨HR.out.base (b0.trans h1).size, hcl⟩, (b0.trans h1).trans h3⟩
set_option maxRecDepth 100000 in
set_option maxHeartbeats 2000000 in
theorem iterMZN (m l B lo hi R C : Nat) (p : Option Addr) (n cap : Nat) (f : Nat → Nat → En) (J Jx : List RowX → World → Prop) (W : World) (hJ : AbidesFrom W.heap.size J) (hh : hi ≤ W.heap.size)
    (hY : ∀ pre x W0 W1, J pre W0 → RowOkZ 4 cellsN R C f x W0 W1 → pre.length < R → YieldAt Fence.wide (m - 1) Tryz.prog l #[.int .i64 x.1, rowV C x] W1 fun e W' =>
      (e = .returned (.bool true) ∧ J (pre ++ [x]) W' ∧ Span lo hi W1 W') ∨ (e = .returned (.bool false) ∧ Jx (pre ++ [x]) W'))
    (hP : KeptIn 4 cellsN W lo hi B R C p n cap f) (h0 : J [] W) :
    CallsIn Fence.wide m Tryz.prog 128 #[.func (.yield l) #[] #[], .pointer (some ⟨B, 0, none⟩)] W fun e W' => (∃ v, e = .returned v) ∧
      ((∃ zs : List RowX, zs.map (·.1) = List.range R ∧ J zs W') ∨ (∃ pre : List RowX, pre.map (·.1) <+: List.range R ∧ Jx pre W')) := by
  have yn := Tryz.yieldMN l
  have HP := hideP hP
  have hR16 := hP.hd.r2
  obtain ⟨c0, c1, c2, f0, f1, f2, lt⟩ := hP.box
  clear hP
  refine callsIn_of_wp Tryz.func128 rfl trivial ?_ rfl
  simp only [Tryz.ntmps128, List.size_toArray, List.length_cons, List.length_nil, Nat.reduceAdd, Nat.reduceSub, Array.replicate_succ, Array.replicate_zero, List.push_toArray, List.append_toArray, List.nil_append, List.cons_append]
  gi_wp2
  clear c0 c1 c2 f0 f1 f2
  gi_loopw [8] (fun i wr => ∃ (k : Nat) (pre : List RowX), k ≤ R ∧ i = .int .i64 k ∧ pre.map (·.1) = List.range k ∧ J pre wr ∧ Span lo hi W wr) (fun i _ => R - (intOf i).toNat)
  case atStart => exact ⟨0, [], Nat.zero_le _, rfl, rfl, h0, Span.refl _ _ _⟩
  case round =>
    obtain ⟨k, pre, hk, rfl, hpre, hJs, hsp⟩ := hrel
    have hlen : pre.length = k := by have := congrArg List.length hpre; simpa using this
    have HPR := hideP hpre
    clear hpre
    by_cases hlt : k < R
    · have HKK := hideP (HP.out.later hsp)
      obtain ⟨c0, c1, c2, f0, f1, f2, lt⟩ := HKK.out.box
      gi_wp2_with fail
      refine ⟨trivial, fun h => (by cases h), ?_⟩
      refine (callsIn_wide.2 (mRowZN R C p n cap f _ HKK.out.mx k hlt)).mono ?_
      rintro e w1 ⟨p', cap', rfl, ⟨hR, hcc⟩, h1⟩
      obtain ⟨fn, tmps, assign, body, hyd, hR2⟩ := hY pre (k, p', cap') _ w1 hJs ⟨h1, hlt, hR, hcc⟩ (by omega)
      dsimp only at hyd
      clear c0 c1 c2 f0 f1 f2 hR
      have hR3 : RoundIn Fence.wide (m - 1) Tryz.prog l fn tmps assign body w1 fun e W' => ∃ r : Bool, e = .returned (.bool r) ∧ ((r = true ∧ J (pre ++ [(k, p', cap')]) W' ∧ Span lo hi w1 W') ∨ (r = false ∧ Jx (pre ++ [(k, p', cap')]) W')) := by
        refine hR2.mono ?_
        rintro e W' (⟨rfl, h1, h2⟩ | ⟨rfl, h1⟩)
        · exact ⟨true, rfl, .inl ⟨rfl, h1, h2⟩⟩
        · exact ⟨false, rfl, .inr ⟨rfl, h1⟩⟩
      gi_wp2_with fail
      refine ⟨fun h => (by cases h), ?_⟩
      refine hR3.mono ?_
      rintro e W3 ⟨r, rfl, hr⟩
      have sp1 : Span lo hi W w1 := hsp.trans (h1.span (by have := hsp.size; omega))
      have HT := hideP (show (pre ++ [((k, p', cap') : RowX)]).map (·.1) = List.range (k + 1) by rw [List.map_append, HPR.out, List.range_succ]; rfl)
      rcases hr with ⟨rfl, hJ3, hk3⟩ | ⟨rfl, hJx3⟩
      · gi_wp2
        go_roundw
        case rel => exact ⟨k + 1, _, by omega, by simp, HT.out, hJ3, sp1.trans hk3⟩
        case measure => simp [intOf]; omega
      · gi_wp2
        refine bodyPost_ret (results_none rfl _ _ _) rfl ?_
        exact ⟨⟨_, rfl⟩, .inr ⟨_, by rw [HT.out]; exact range_pre hlt, hJx3⟩⟩
    · obtain rfl : k = R := by omega
      have HJ := hideP hJs
      clear hJs
      gi_wp2
      go_end0
      exact ⟨⟨_, rfl⟩, .inl ⟨pre, HPR.out, HJ.out⟩⟩
theorem seqMZN (m B lo hi R C : Nat) (p : Option Addr) (n cap : Nat) (f : Nat → Nat → En) (w : World) (hh : hi ≤ w.heap.size) (hP : KeptIn 4 cellsN w lo hi B R C p n cap f) :
    SeqV Fence.wide m Tryz.prog 128 #[.pointer (some ⟨B, 0, none⟩)] (fun x : RowX => #[.int .i64 x.1, rowV C x]) (RowOkZ 4 cellsN R C f) (Span lo hi) (fun zs => zs.map (·.1) = List.range R) (fun pre => pre.map (·.1) <+: List.range R) R w :=
  fun l J Jx W hW hJ _ hY h0 => iterMZN m l B lo hi R C p n cap f J Jx W hJ (Nat.le_trans hh hW.size) hY (hP.later (Bl.span hW hh)) h0
theorem mNewZN (r c : Int) (p : Option Addr) (n cap : Nat) (xs : List En) (w : World) (hr : Rq 4 cellsN w (.slice p n cap) xs) (h : fitB r c n = true) (hn : xs.length = n) :
    Calls Tryz.prog 9 #[.int .i64 r, .int .i64 c, .slice p n cap] w fun e w' => ∃ p' cap', e = .returned (.tuple #[mV r c p' n cap', .bool true]) ∧ RwZ 4 cellsN w' w.heap.size (.slice p' n cap') xs ∧ Bl w w' := by
  have hl : n ≤ 1000000 := by obtain ⟨R, C, _, _, hd, rfl⟩ := fitB_nat h; have := hd.lt; omega
  obtain ⟨W, hW⟩ : ∃ W, W = w.alloc (.cells #[.int .i64 0, .int .i64 0, .slice none 0 0] 24) := ⟨_, rfl⟩
  have b0 : Bl w W := by rw [hW]; exact (Bl.refl _).alloc _
  have x0 : MBox W w.heap.size 0 0 none 0 0 := by rw [hW]; exact MBox.new w 0 0 none 0 0 _
  have hsz : W.heap.size = w.heap.size + 1 := by rw [hW]; simp
  have hne : xs ≠ [] := by
    obtain ⟨R, C, _, _, hd, e⟩ := fitB_nat h
    have := Mx.pos hd e
    intro e2
    rw [e2] at hn
    simp at hn
    omega
  have CL := hideP (vCloneZN (.slice p n cap) xs W (hr.later b0) (by omega) hne)
  have HW := hideP hW
  clear hW hr
  go_enter Tryz.func9, Tryz.ntmps9
  go_wp2_with fail
  rw [← HW.out]
  refine (fits_any _ _ _ _).mono ?_
  rintro e w1 ⟨rfl, rfl⟩
  rw [h]
  go_wp2_with fail
  refine CL.out.mono ?_
  rintro e w2 ⟨u, rfl, hR, h2⟩
  obtain ⟨p', cap', rfl, _, _⟩ := hR.rw.cut
  rw [hn] at hR ⊢
  have HR := hideP (hR.base (lo' := w.heap.size + 1) (by omega))
  obtain ⟨c0, c1, c2, f0, f1, f2, lt⟩ := x0.later h2
  clear hR CL
  go_wp2
  simp [bodyPost, results, Tryz.results9, go_sem, c0, c1, c2]
  exact ⟨p', cap', ⟨rfl, rfl⟩, (((HR.out.set _ (Nat.lt_succ_self _)).set _ (Nat.lt_succ_self _)).set _ (Nat.lt_succ_self _)).base (by omega), Bl.put3 (b0.trans h2) (Nat.le_refl _) _ _ _⟩
end Go.Proofs.YtlbmkjicbkfmjaaGreat

/- Contracts of tri's square, triangle, and of Whole's own memory, of enclosed numbers (layer 7). Written by genTr.py. -/
namespace Go.Proofs.YtlbmkjicbkfmjaaGreat
open Go.RowKit
set_option linter.unusedSimpArgs false
set_option linter.unusedVariables false

theorem tSquareN (r c : Int) (p : Option Addr) (n cap : Nat) (w : World) :
    Calls Tryz.prog 96 #[mV r c p n cap] w fun e w' => e = .returned (.bool (sqB r c n)) ∧ Bl w w' := by
  obtain ⟨W, hW⟩ : ∃ W, W = w.alloc (.cells #[.int .i64 r, .int .i64 c, .slice p n cap] 24) := ⟨_, rfl⟩
  have b0 : Bl w W := by rw [hW]; exact (Bl.refl _).alloc _
  have m0 : MBox W w.heap.size r c p n cap := by rw [hW]; exact MBox.new w _ _ _ _ _ _
  have HW := hideP hW
  clear hW
  have hd : sqB r c n = (fitB r c n && (r == c)) := by unfold sqB; congr 1
  rw [hd]
  clear hd
  cases hf : fitB r c n
  · go_enter Tryz.func96, Tryz.ntmps96
    go_wp2_with fail
    rw [← HW.out]
    refine (mRightN _ _ _ _ _ _).mono ?_
    rintro e w1 ⟨rfl, h1⟩
    rw [hf]
    obtain ⟨c0, c1, c2, f0, f1, f2, lt⟩ := m0.later h1
    go_wp2
    go_ret
    exact ⟨rfl, b0.trans h1⟩
  · go_enter Tryz.func96, Tryz.ntmps96
    go_wp2_with fail
    rw [← HW.out]
    refine (mRightN _ _ _ _ _ _).mono ?_
    rintro e w1 ⟨rfl, h1⟩
    rw [hf]
    obtain ⟨c0, c1, c2, f0, f1, f2, lt⟩ := m0.later h1
    go_wp2
    go_ret
    exact ⟨by rw [Bool.true_and]; rfl, b0.trans h1⟩
set_option maxHeartbeats 1000000 in
/-- vec.Whole's memory is its own. -/
theorem vWholeON (p : Option Addr) (n cap : Nat) (ns : List Int) (w : World) (h : Rq 1 (fun n => [.int .i64 n]) w (.slice p n cap) ns) (hn : ns.length = n) (h0 : 0 < n) (hl : n ≤ 1000000) :
    Calls Tryz.prog 23 #[.slice p n cap] w fun e w' => ∃ u, e = .returned u ∧ w'.ownsRow w.heap.size 28 4 u n ((ns.map wholeN).flatMap cellsN) ∧ Bl w w' := by
  obtain ⟨i0, hi, hz0, hz1, hz2⟩ := info_parts Tryz.info_N
  subst hn
  rcases h with ⟨p', cap', he, rfl, hpn⟩ | ⟨b, o, cap', he, hc, hb, hx⟩
  · simp at h0
  · cases he
    have HX := hideP hx
    clear hx
    go_enter Tryz.func23, Tryz.ntmps23
    go_wp2_with (at_make; refine wpList_make_own _ rfl _ _ 22 rfl w.heap.size 28 i0 (.agg #[.int .i64 0, .int .i64 0, .int .i64 0, .bool false]) 4 Tryz.underlying22 hi hz0 hz1 .i64 .i64 _ ns.length rfl rfl (by simp) (by rw [hz2]; omega) (by unfold maxLen; omega) (Nat.le_refl _) ?_; intro w0 hown0 hgrow0)
    have hB0 : Bl w w0 := (Bl.refl w).grown hgrow0 (by omega) (fun k e => by cases e)
    go_loopw [3, 11] (fun v i wr => ∃ k : Nat, i = .int .i64 k ∧ k ≤ ns.length ∧ wr.ownsRow w.heap.size 28 4 v ((ns.take k).map wholeN).length (((ns.take k).map wholeN).flatMap cellsN) ∧ Bl w wr) (fun _ i _ => ns.length - (intOf i).toNat)
    case atStart => exact ⟨0, rfl, Nat.zero_le _, hown0, hB0⟩
    case round =>
      obtain ⟨k, rfl, hk, hown, hB⟩ := hrel
      by_cases hlt : k < ns.length
      · obtain ⟨x, hx⟩ : ∃ x, ns[k]? = some x := ⟨_, List.getElem?_eq_getElem hlt⟩
        have y0 : wr.cell? ⟨b, o + k, none⟩ = some (.int .i64 x) := by
          have := (bl_cell hB _ _ hb).trans (HX.out k x hx 0 _ rfl)
          simpa using this
        have hT : (ns.take (k + 1)).map wholeN = (ns.take k).map wholeN ++ [wholeN x] := by rw [List.take_add_one, hx]; simp
        have hkl : ((ns.take k).map wholeN).length = k := by simp; omega
        have HK := hideP hkl
        clear hkl
        have HT := hideP hT
        clear hT
        generalize hys : (ns.take k).map wholeN = ys at *
        clear hys
        go_wp2_with fail
        refine (vwholeN x _).mono ?_
        rintro e w2 ⟨rfl, h2⟩
        have hr : wholeN x = (ptE (foN x) (foB x)) := rfl
        generalize (ptE (foN x) (foB x)) = r at *
        rw [hr] at HT
        clear hr y0
        replace hown := own_blN hown h2
        replace hB := hB.trans h2
        have hkk := HK.out
        go_wp2_with (at_builtin; refine wpList_append_own _ rfl _ _ 22 rfl w.heap.size 28 i0 (.agg #[.int .i64 0, .int .i64 0, .int .i64 0, .bool false]) 4 32 Tryz.underlying22 hi hz0 hz1 hz2 rfl (by decide) _ _ _ rfl (hown.alloc _) ⟨_, 0, none⟩ 1 1 (cellsN r) rfl rfl (newN_cells _ _ _) (oneN_cells _) (by unfold maxLen; omega) (by omega) (by have := hB.size; simp; omega) ?_; intro v' w1 hown' hgrow _)
        have R := ownN_step hB hown hown' hgrow
        clear hown hown' hgrow
        go_wp2
        go_roundw
        case rel => exact ⟨k + 1, by simp, hlt, by rw [HT.out]; exact R.2, R.1⟩
        case measure => simp [intOf]; omega
      · have hk' : k = ns.length := by omega
        subst hk'
        rw [List.take_length, List.length_map] at hown
        have R := hideP hown
        clear hown
        go_wp2
        go_ret
        exact ⟨_, rfl, R.out, hB⟩
/-- mat.Whole's memory is its own. -/
theorem mWholeON (r c : Int) (p : Option Addr) (n cap : Nat) (ns : List Int) (w : World) (hr : Rq 1 (fun n => [.int .i64 n]) w (.slice p n cap) ns) (h : fitB r c n = true) (hn : ns.length = n) :
    Calls Tryz.prog 21 #[.int .i64 r, .int .i64 c, .slice p n cap] w fun e w' => ∃ g cap', e = .returned (.tuple #[mV r c (some ⟨g, 0, none⟩) n cap', .bool true]) ∧ w'.ownsRow (w.heap.size + 1) 28 4 (.slice (some ⟨g, 0, none⟩) n cap') n ((ns.map wholeN).flatMap cellsN) ∧ Bl w w' := by
  have hl : n ≤ 1000000 ∧ 0 < n := by obtain ⟨R, C, _, _, hd, rfl⟩ := fitB_nat h; have := hd.lt; exact ⟨by omega, Nat.mul_pos hd.r1 hd.c1⟩
  obtain ⟨W, hW⟩ : ∃ W, W = w.alloc (.cells #[.int .i64 0, .int .i64 0, .slice none 0 0] 24) := ⟨_, rfl⟩
  have b0 : Bl w W := by rw [hW]; exact (Bl.refl _).alloc _
  have x0 : MBox W w.heap.size 0 0 none 0 0 := by rw [hW]; exact MBox.new w 0 0 none 0 0 _
  have hsz : W.heap.size = w.heap.size + 1 := by rw [hW]; simp
  have CL := hideP (vWholeON p n cap ns W (hr.later b0) hn hl.2 hl.1)
  rw [hsz] at CL
  have HW := hideP hW
  clear hW hr
  go_enter Tryz.func21, Tryz.ntmps21
  go_wp2_with fail
  rw [← HW.out]
  refine (fits_any _ _ _ _).mono ?_
  rintro e w1 ⟨rfl, rfl⟩
  rw [h]
  go_wp2_with fail
  refine CL.out.mono ?_
  rintro e w2 ⟨u, rfl, hR, h2⟩
  obtain ⟨g, cap', hu⟩ : ∃ g cap', u = .slice (some ⟨g, 0, none⟩) n cap' := by
    rcases hR.2 with ⟨rfl, e⟩ | ⟨g, cap', cur, rfl, _⟩
    · have := hl.2; omega
    · exact ⟨g, cap', rfl⟩
  subst hu
  have HR := hideP hR
  obtain ⟨c0, c1, c2, f0, f1, f2, lt⟩ := x0.later h2
  clear hR CL
  go_wp2
  simp [bodyPost, results, Tryz.results21, go_sem, c0, c1, c2]
  refine ⟨g, cap', ⟨rfl, rfl⟩, ?_, Bl.put3 (b0.trans h2) (Nat.le_refl _) _ _ _⟩
  exact ownsRow_setCell_below (ownsRow_setCell_below (ownsRow_setCell_below HR.out (a := ⟨w.heap.size, 0, none⟩) (Nat.lt_succ_self _) _) (a := ⟨w.heap.size, 1, none⟩) (Nat.lt_succ_self _) _) (a := ⟨w.heap.size, 2, none⟩) (Nat.lt_succ_self _) _
/-- One number of a row that is owned, set anew. -/
theorem own_putN {w : World} {base g m cap : Nat} {xs : List En} (h : w.ownsRow base 28 4 (.slice (some ⟨g, 0, none⟩) m cap) m (xs.flatMap cellsN)) {q : Nat} (hq : q < xs.length) (x : En) :
    ((((w.setCell ⟨g, q * 4, none⟩ (.int .i64 x.v)).setCell ⟨g, q * 4 + 1, none⟩ (.int .i64 x.l)).setCell ⟨g, q * 4 + 2, none⟩ (.int .i64 x.h)).setCell ⟨g, q * 4 + 3, none⟩ (.bool x.bad)).ownsRow base 28 4 (.slice (some ⟨g, 0, none⟩) m cap) m ((xs.set q x).flatMap cellsN) := by
  have e := flat_set cellsN_len xs q x hq
  rw [← e]
  have o0 := h
  obtain ⟨o1, g1⟩ := o0.stored (q * 4) (.int .i64 x.v)
  obtain ⟨o2, g2⟩ := o1.stored (q * 4 + 1) (.int .i64 x.l)
  obtain ⟨o3, g3⟩ := o2.stored (q * 4 + 2) (.int .i64 x.h)
  obtain ⟨o4, g4⟩ := o3.stored (q * 4 + 3) (.bool x.bad)
  exact o4

end Go.Proofs.YtlbmkjicbkfmjaaGreat

/- Contracts of tri's Clear, Root, of enclosed numbers (layer 7). Written by genTr.py. -/
namespace Go.Proofs.YtlbmkjicbkfmjaaGreat
open Go.RowKit
set_option linter.unusedSimpArgs false
set_option linter.unusedVariables false

theorem Tryz.mDivN (x : Value) (w : World) : (method 332 28 x "Div").run Tryz.prog w = .ok (202, x) w := by kernel_rfl
theorem Tryz.mRootN (x : Value) (w : World) : (method 332 28 x "Root").run Tryz.prog w = .ok (205, x) w := by kernel_rfl
/-- A matrix with z above its diagonal. -/
def clrN (f : Nat → Nat → En) (i k : Nat) : En := if k ≤ i then f i k else wholeN 0
end Go.Proofs.YtlbmkjicbkfmjaaGreat

/- Contracts of tri's Root, of enclosed numbers (layer 7). Written by genTr.py. -/
namespace Go.Proofs.YtlbmkjicbkfmjaaGreat
open Go.RowKit
set_option linter.unusedSimpArgs false
set_option linter.unusedVariables false

/-- What Root tells of a place, of what it is so far. -/
def rootVN (P g : Nat → Nat → En) (i k : Nat) : En := if i = k then rootE (subE (P i k) (dotN (rowM k g i) (rowM k g k))) else divE (subE (P i k) (dotN (rowM k g i) (rowM k g k))) (g k k)
end Go.Proofs.YtlbmkjicbkfmjaaGreat

/- An append of what is told of two values to a row, of enclosed numbers: a region that draws its order (layer 6). Written by genMa.py. -/
namespace Go.Proofs.YtlbmkjicbkfmjaaGreat
open Go.RowKit Go.Shelf
set_option linter.unusedSimpArgs false
set_option linter.unusedVariables false

theorem Tryz.load1N (B : Nat) (v : Value) (u : World) (h : u.cell? ⟨B, 0, none⟩ = some v) : (Instr.loadAt 22 (.pointer (some ⟨B, 0, none⟩))).run Tryz.prog u = .ok v u := by
  simp [go_sem, h]
theorem Tryz.store1N (B : Nat) (p : Option Addr) (n cap : Nat) (v : Value) (u : World) (h : u.cell? ⟨B, 0, none⟩ = some v) (hf : u.frozen? ⟨B, 0, none⟩ = false) : (Instr.storeAt 22 (.pointer (some ⟨B, 0, none⟩)) (.slice p n cap)).run Tryz.prog u = .ok () (u.setCell ⟨B, 0, none⟩ (.slice p n cap)) := by
  simp [go_sem, h, hf]
theorem Tryz.build1N (x : En) (u : World) : (Instr.buildSlice 22 1 #[(0, enV x)]).run Tryz.prog u = .ok (.slice (some ⟨u.heap.size, 0, none⟩) 1 1) (u.alloc (.cells #[.int .i64 x.v, .int .i64 x.l, .int .i64 x.h, .bool x.bad] 28)) := by
  simp [go_sem]
/-- Between two of its operations. -/
def DotIN (d : Nat) (a : Act) (W : World) (v v1 v2 : Value) (z : En) (base : Nat) (xs : List En) (B : Nat) (L : Nat → Bool) (act : Act) (u : World) : Prop :=
  a.tmps.size = act.tmps.size ∧ (∀ s, s < d → act.eval (.tmp s) = a.eval (.tmp s)) ∧ (L 3 = true → L 1 = true ∧ L 2 = true) ∧ (L 4 = true → L 3 = true) ∧ (L 5 = true → L 0 = true ∧ L 4 = true) ∧ (L 6 = true → L 5 = true)
    ∧ (L 5 = false → Bl W u ∧ (L 0 = true → act.eval (.tmp d) = v) ∧ (L 1 = true → act.eval (.tmp (d + 1)) = v1) ∧ (L 2 = true → act.eval (.tmp (d + 2)) = v2) ∧ (L 3 = true → act.eval (.tmp (d + 3)) = enV z) ∧ (L 4 = true → ∃ g, act.eval (.tmp (d + 4)) = .slice (some ⟨g, 0, none⟩) 1 1 ∧ Box u g z))
    ∧ (L 5 = true → ∃ u0 w5 g' cap', Bl W u0 ∧ u0.grownBy w5 v.ownBlock ∧ w5.ownsRow base 28 4 (.slice (some ⟨g', 0, none⟩) (xs.length + 1) cap') (xs.length + 1) (xs.flatMap cellsN ++ cellsN z) ∧ (some g' = v.ownBlock ∨ g' = u0.heap.size)
        ∧ (L 6 = false → u = w5 ∧ act.eval (.tmp (d + 5)) = .slice (some ⟨g', 0, none⟩) (xs.length + 1) cap') ∧ (L 6 = true → u = w5.setCell ⟨B, 0, none⟩ (.slice (some ⟨g', 0, none⟩) (xs.length + 1) cap')))
set_option maxHeartbeats 1000000 in
theorem dotAppendN {F : Fence} {m : Nat} {ops : Array Oper} {o0 o1 o2 o3 o4 o5 o6 : Oper} {Q : Exit → Act → World → Prop} {a : Act} {W : World} {id : Nat} (hops : ops = #[o0, o1, o2, o3, o4, o5, o6]) (hlow : lowB ops = true) (d sL fD : Nat) (hsz : d + 6 ≤ a.tmps.size) (hsL : sL < d)
    (g0 : o0.guard = none ∧ o0.dst = some d ∧ o0.op = .load 22 (.tmp sL)) (g1 : o1.guard = none ∧ o1.dst = some (d + 1)) (g2 : o2.guard = none ∧ o2.dst = some (d + 2))
    (g3 : o3.guard = none ∧ o3.dst = some (d + 3) ∧ o3.op = .call { callee := .value (.func fD), args := #[.tmp (d + 1), .tmp (d + 2)], argTypes := #[22, 22] })
    (g4 : o4.guard = none ∧ o4.dst = some (d + 4) ∧ o4.op = .buildSlice 22 1 #[(0, .tmp (d + 3))])
    (g5 : o5.guard = none ∧ o5.dst = some (d + 5) ∧ o5.op = .call { callee := .builtin .append, args := #[.tmp d, .tmp (d + 4)], argTypes := #[22, 22] })
    (g6 : o6.guard = none ∧ o6.dst = none ∧ o6.op = .store 22 (.tmp sL) (.tmp (d + 5)))
    (e3 : (⟨1, .data⟩ : Edge) ∈ o3.after ∧ (⟨2, .data⟩ : Edge) ∈ o3.after) (e4 : (⟨3, .data⟩ : Edge) ∈ o4.after) (e5 : (⟨0, .data⟩ : Edge) ∈ o5.after ∧ (⟨4, .data⟩ : Edge) ∈ o5.after) (e6 : (⟨5, .data⟩ : Edge) ∈ o6.after)
    (v1 v2 : Value) (h1 : ∀ (act : Act) (u : World) (K : Act → World → Prop), (∀ s, s < d → act.eval (.tmp s) = a.eval (.tmp s)) → Bl W u → K (act.put (some (d + 1)) v1) u → Oper.wpIn F m Tryz.prog o1 act u K Q)
    (h2 : ∀ (act : Act) (u : World) (K : Act → World → Prop), (∀ s, s < d → act.eval (.tmp s) = a.eval (.tmp s)) → Bl W u → K (act.put (some (d + 2)) v2) u → Oper.wpIn F m Tryz.prog o2 act u K Q)
    (hF : F.fn fD) (hdep : F.depth.isSome = true → 1 ≤ m) (eg : ∀ args w, (callFunc fD args).run Tryz.prog w = .ok (.enter fD args) w) (z : En)
    (hC : ∀ u, Bl W u → CallsIn F (m - 1) Tryz.prog fD #[v1, v2] u fun e w' => e = .returned (enV z) ∧ Bl u w')
    (B : Nat) (hB : a.eval (.tmp sL) = .pointer (some ⟨B, 0, none⟩)) (v : Value) (hv : Boxed W B 22 v) (base : Nat) (xs : List En) (hown : W.ownsRow base 28 4 v xs.length (xs.flatMap cellsN)) (hlen : xs.length ≤ 100000) (hbase : base ≤ W.heap.size)
    (fin : ∀ act u0 w5 g' cap', Bl W u0 → u0.grownBy w5 v.ownBlock → w5.ownsRow base 28 4 (.slice (some ⟨g', 0, none⟩) (xs.length + 1) cap') (xs.length + 1) (xs.flatMap cellsN ++ cellsN z) → (some g' = v.ownBlock ∨ g' = u0.heap.size) → Q .normal act (w5.setCell ⟨B, 0, none⟩ (.slice (some ⟨g', 0, none⟩) (xs.length + 1) cap'))) :
    (Code.region id ops true).wpIn F m Tryz.prog Q a W := by
  obtain ⟨i0, hi, hz0, hz1, hz2⟩ := info_parts Tryz.info_N
  have fm : Tryz.prog.follows .mixedOrders = true := by kernel_rfl
  refine region_facts fm (lowB_low hlow) (DotIN d a W v v1 v2 z base xs B) ?_ ?_ ?_
  · exact ⟨rfl, fun _ _ => rfl, nofun, nofun, nofun, nofun, fun _ => ⟨(Bl.refl _).drew, nofun, nofun, nofun, nofun, nofun⟩, nofun⟩
  · intro L act u i o ⟨hs, hfr, c3, c4, c5, c6, hpre, hpost⟩ ho hLi hall
    have hlt : i < 7 := by have := (Array.getElem?_eq_some_iff.1 ho).1; rw [hops] at this; simpa using this
    have sv : ∀ (e : Nat) (x : Value), e < act.tmps.size → (act.put (some e) x).eval (.tmp e) = x := fun e x h => eval_put_same h
    have ne5 : (L 5 = true → False) → L 5 = false := fun h => by cases hh : L 5 <;> simp_all
    have fr : ∀ (e : Nat) (x : Value), d ≤ e → ∀ s, s < d → (act.put (some e) x).eval (.tmp s) = a.eval (.tmp s) := fun e x he s hs => by rw [eval_put_other (by omega)]; exact hfr s hs
    rcases (by omega : i = 0 ∨ i = 1 ∨ i = 2 ∨ i = 3 ∨ i = 4 ∨ i = 5 ∨ i = 6) with rfl | rfl | rfl | rfl | rfl | rfl | rfl
    · obtain rfl : o = o0 := by rw [hops] at ho; simpa using ho.symm
      have l5 : L 5 = false := ne5 fun h => by rw [(c5 h).1] at hLi; cases hLi
      obtain ⟨hb, p0, p1, p2, p3, p4⟩ := hpre l5
      refine step_wp ho g0.1 (load_wp _ _ g0.2.2 (v := v) (by rw [hfr _ hsL, hB]; exact Tryz.load1N B v u (boxed_bl hv hb).cell) ?_)
      rw [g0.2.1]
      refine ⟨by rw [size_put]; exact hs, fr _ _ (Nat.le_refl _), by simpa using c3, by simpa using c4, by simp [l5], by simpa using c6, fun _ => ⟨hb, fun _ => sv _ _ (by omega), ?_, ?_, ?_, ?_⟩, by simp [l5]⟩
      all_goals (simp only [Nat.reduceEqDiff, Nat.reduceBEq, Bool.or_false]; intro h; rw [eval_put_other (by omega)])
      · exact p1 h
      · exact p2 h
      · exact p3 h
      · exact p4 h
    · obtain rfl : o = o1 := by rw [hops] at ho; simpa using ho.symm
      have l3 : L 3 = false := by cases hh : L 3 <;> simp_all
      have l4 : L 4 = false := by cases hh : L 4 <;> simp_all
      have l5 : L 5 = false := ne5 fun h => by rw [(c5 h).2] at l4; cases l4
      obtain ⟨hb, p0, p1, p2, p3, p4⟩ := hpre l5
      refine step_wp ho g1.1 (h1 act u _ hfr hb ?_)
      refine ⟨by rw [size_put]; exact hs, fr _ _ (by omega), by simp [l3], by simp [l4], by simp [l5], by simpa using c6, fun _ => ⟨hb, ?_, fun _ => sv _ _ (by omega), ?_, by simp [l3], by simp [l4]⟩, by simp [l5]⟩
      all_goals (simp only [Nat.reduceEqDiff, Nat.reduceBEq, Bool.or_false]; intro h; rw [eval_put_other (by omega)])
      · exact p0 h
      · exact p2 h
    · obtain rfl : o = o2 := by rw [hops] at ho; simpa using ho.symm
      have l3 : L 3 = false := by cases hh : L 3 <;> simp_all
      have l4 : L 4 = false := by cases hh : L 4 <;> simp_all
      have l5 : L 5 = false := ne5 fun h => by rw [(c5 h).2] at l4; cases l4
      obtain ⟨hb, p0, p1, p2, p3, p4⟩ := hpre l5
      refine step_wp ho g2.1 (h2 act u _ hfr hb ?_)
      refine ⟨by rw [size_put]; exact hs, fr _ _ (by omega), by simp [l3], by simp [l4], by simp [l5], by simpa using c6, fun _ => ⟨hb, ?_, ?_, fun _ => sv _ _ (by omega), by simp [l3], by simp [l4]⟩, by simp [l5]⟩
      all_goals (simp only [Nat.reduceEqDiff, Nat.reduceBEq, Bool.or_false]; intro h; rw [eval_put_other (by omega)])
      · exact p0 h
      · exact p1 h
    · obtain rfl : o = o3 := by rw [hops] at ho; simpa using ho.symm
      have l1 : L 1 = true := hall _ e3.1 rfl
      have l2 : L 2 = true := hall _ e3.2 rfl
      have l4 : L 4 = false := by cases hh : L 4 <;> simp_all
      have l5 : L 5 = false := ne5 fun h => by rw [(c5 h).2] at l4; cases l4
      obtain ⟨hb, p0, p1, p2, p3, p4⟩ := hpre l5
      refine step_wp ho g3.1 (call2_wp fD _ _ _ g3.2.2 hF hdep eg (by rw [p1 l1, p2 l2]; exact hC u hb) ?_)
      rintro e w' ⟨rfl, hb'⟩
      refine ⟨_, rfl, ?_⟩
      rw [g3.2.1]
      refine ⟨by rw [size_put]; exact hs, fr _ _ (by omega), by simp [l1, l2], by simp [l4], by simp [l5], by simpa using c6, fun _ => ⟨hb.trans hb', ?_, ?_, ?_, fun _ => sv _ _ (by omega), by simp [l4]⟩, by simp [l5]⟩
      all_goals (simp only [Nat.reduceEqDiff, Nat.reduceBEq, Bool.or_false]; intro h; rw [eval_put_other (by omega)])
      · exact p0 h
      · exact p1 h
      · exact p2 h
    · obtain rfl : o = o4 := by rw [hops] at ho; simpa using ho.symm
      have l3 : L 3 = true := hall _ e4 rfl
      have l5 : L 5 = false := ne5 fun h => by rw [(c5 h).2] at hLi; cases hLi
      obtain ⟨hb, p0, p1, p2, p3, p4⟩ := hpre l5
      refine step_wp ho g4.1 (build_wp _ _ g4.2.2 (by rw [p3 l3]; exact Tryz.build1N z u) ?_)
      rw [g4.2.1]
      refine ⟨by rw [size_put]; exact hs, fr _ _ (by omega), by simpa using c3, by simp [l3], by simp [l5], by simpa using c6, fun _ => ⟨hb.alloc _, ?_, ?_, ?_, ?_, fun _ => ⟨u.heap.size, sv _ _ (by omega), Box.new u z _⟩⟩, by simp [l5]⟩
      all_goals (simp only [Nat.reduceEqDiff, Nat.reduceBEq, Bool.or_false]; intro h; rw [eval_put_other (by omega)])
      · exact p0 h
      · exact p1 h
      · exact p2 h
      · exact p3 h
    · obtain rfl : o = o5 := by rw [hops] at ho; simpa using ho.symm
      have l0 : L 0 = true := hall _ e5.1 rfl
      have l4 : L 4 = true := hall _ e5.2 rfl
      have l6 : L 6 = false := by cases hh : L 6 <;> simp_all
      obtain ⟨hb, p0, p1, p2, p3, p4⟩ := hpre hLi
      obtain ⟨g, hg, bz⟩ := p4 l4
      refine step_wp ho g5.1 (stepIn_append (.tmp d) (.tmp (d + 4)) 22 g5.2.2 base 28 i0 (.agg #[.int .i64 0, .int .i64 0, .int .i64 0, .bool false]) 4 32 Tryz.underlying22 hi hz0 hz1 hz2 rfl (by decide) v xs.length (xs.flatMap cellsN) (p0 l0) (own_blN hown hb) ⟨g, 0, none⟩ 1 1 (cellsN z) hg rfl bz.cells (oneN_cells _) (by unfold maxLen; omega) (by omega) (by have := hb.size; omega) ?_)
      intro v' w5 hown' hgrow hat
      obtain ⟨g', cap', rfl⟩ := ownsRow_succ hown'
      rw [g5.2.1]
      refine ⟨by rw [size_put]; exact hs, fr _ _ (by omega), by simpa using c3, by simpa using c4, by simp [l0, l4], by simp [l6], by simp, fun _ => ⟨u, w5, g', cap', hb, hgrow, hown', ?_, fun _ => ⟨rfl, sv _ _ (by omega)⟩, by simp [l6]⟩⟩
      rcases hat with h | h
      · exact .inl h
      · exact .inr (by simpa [Value.ownBlock] using h)
    · obtain rfl : o = o6 := by rw [hops] at ho; simpa using ho.symm
      have l5 : L 5 = true := hall _ e6 rfl
      obtain ⟨u0, w5, g', cap', k1, k2, k3, k4, k5, _⟩ := hpost l5
      obtain ⟨rfl, ev⟩ := k5 hLi
      have hv5 : Boxed u B 22 v := (boxed_bl hv k1).kept k2 ((boxed_bl hv k1).not_row (by decide) (own_blN hown k1))
      refine step_wp ho g6.1 (store_wp _ _ _ g6.2.2 (by rw [hfr _ hsL, hB, ev]; exact Tryz.store1N B _ _ _ v u hv5.cell hv5.frozen) ?_)
      rw [g6.2.1]
      exact ⟨by rw [size_put]; exact hs, fun s hs => hfr s hs, by simpa using c3, by simpa using c4, by simpa using c5, by simp [l5], by simp [l5], fun _ => ⟨u0, u, g', cap', k1, k2, k3, k4, by simp, fun _ => rfl⟩⟩
  · intro L act u ⟨hs, hfr, c3, c4, c5, c6, hpre, hpost⟩ hL
    have hL' : ∀ j, j < 7 → L j = true := fun j hj => hL j (by rw [hops]; simpa using hj)
    obtain ⟨u0, w5, g', cap', k1, k2, k3, k4, _, k6⟩ := hpost (hL' 5 (by omega))
    rw [k6 (hL' 6 (by omega))]
    exact fin act u0 w5 g' cap' k1 k2 k3 k4
end Go.Proofs.YtlbmkjicbkfmjaaGreat

/- A region that draws its order and ends in an append (or what else turns a row) and a store of what it told: by one fact an operation, whatever their order. -/
namespace Go.Proofs.YtlbmkjicbkfmjaaGreat
open Go.RowKit
set_option linter.unusedSimpArgs false
set_option linter.unusedVariables false

/-- What must hold of the operations, by reckoning: the one at s turns the row, the one behind it stores. -/
def wellA (ops : Array Oper) (ds : List (Option Nat)) (s : Nat) : Bool :=
  lowB2 ops && onceB ds && (ds.length == ops.size) && (ops.size == s + 2) && (match ops[s + 1]? with | some o => o.dst.isNone && o.after.any (fun e => (e.on == s) && Region.binds .any e) | none => false) && (List.range ops.size).all fun j => match ops[j]? with
    | none => true
    | some o => o.guard.isNone && (ds[j]? == some o.dst) && (if j == s + 1 then true else o.dst.isSome) && (if j < s then (List.range (s + 1)).any (fun i => decide (j < i) && match ops[i]? with
      | some o' => o'.after.any fun e => (e.on == j) && Region.binds .any e
      | none => false) else true)
structure WellA (ops : Array Oper) (ds : List (Option Nat)) (s : Nat) : Prop where
  low : lowB2 ops = true
  once : onceB ds = true
  len : ds.length = ops.size
  size : ops.size = s + 2
  guard : ∀ (j : Nat) (o : Oper), ops[j]? = some o → o.guard = none
  dst : ∀ (j : Nat) (o : Oper), ops[j]? = some o → ds[j]? = some o.dst
  got : ∀ (j : Nat) (o : Oper), ops[j]? = some o → j ≠ s + 1 → ∃ t, o.dst = some t
  last : ∀ (o : Oper), ops[s + 1]? = some o → o.dst = none ∧ ∃ e ∈ o.after, e.on = s ∧ Region.binds .any e = true
  used : ∀ j, j < s → ∃ (i : Nat) (o' : Oper) (e : Edge), j < i ∧ i ≤ s ∧ ops[i]? = some o' ∧ e ∈ o'.after ∧ e.on = j ∧ Region.binds .any e = true
theorem wellA_well {ops : Array Oper} {ds : List (Option Nat)} {s : Nat} (h : wellA ops ds s = true) : WellA ops ds s := by
  simp only [wellA, Bool.and_eq_true] at h
  obtain ⟨⟨⟨⟨⟨h1, h2⟩, h3⟩, h4⟩, h5⟩, h6⟩ := h
  have hsz : ops.size = s + 2 := by simpa using h4
  have key := fun (j : Nat) (o : Oper) (ho : ops[j]? = some o) => by
    have := List.all_eq_true.1 h6 j (by simpa using (Array.getElem?_eq_some_iff.1 ho).1)
    rw [ho] at this
    simp only [Bool.and_eq_true] at this
    exact this
  refine ⟨h1, h2, by simpa using h3, hsz, fun j o ho => by simpa using (key j o ho).1.1.1, fun j o ho => by simpa using (key j o ho).1.1.2, fun j o ho hj => ?_, fun o ho => ?_, fun j hj => ?_⟩
  · have := (key j o ho).1.2
    rw [if_neg (by simpa using hj)] at this
    exact Option.isSome_iff_exists.1 this
  · rw [ho] at h5
    simp only [Bool.and_eq_true, Array.any_eq_true'] at h5
    obtain ⟨h7, e, he, hb⟩ := h5
    simp only [Bool.and_eq_true, beq_iff_eq] at hb
    exact ⟨by simpa using h7, e, he, hb.1, hb.2⟩
  · have hjl : j < ops.size := by omega
    have := (key j _ (Array.getElem?_eq_getElem hjl)).2
    rw [if_pos hj] at this
    simp only [List.any_eq_true, Bool.and_eq_true, decide_eq_true_eq] at this
    obtain ⟨i, hi, hji, hm⟩ := this
    have hi' : i < s + 1 := by simpa using hi
    have his : i < ops.size := by omega
    rw [Array.getElem?_eq_getElem his] at hm
    simp only [Array.any_eq_true'] at hm
    obtain ⟨e, he, hb⟩ := hm
    simp only [Bool.and_eq_true, beq_iff_eq] at hb
    exact ⟨i, _, e, hji, by omega, Array.getElem?_eq_getElem his, he, hb.1, hb.2⟩
/-- Between two of a region's operations. -/
structure RA (W : World) (a : Act) (ops : Array Oper) (ds : List (Option Nat)) (s : Nat) (facts : Nat → Value → World → Prop) (PA PB : (Nat → Value) → Value → World → World → Prop) (L : Nat → Bool) (act : Act) (u : World) : Prop where
  size : act.tmps.size = a.tmps.size
  defers : act.defers = a.defers
  frame : ∀ t, (∀ j, L j = true → ds[j]? ≠ some (some t)) → act.eval (.tmp t) = a.eval (.tmp t)
  shut : ∀ (j : Nat) (o : Oper), ops[j]? = some o → L j = true → ∀ e ∈ o.after, Region.binds .any e = true → L e.on = true
  have0 : L s = false → Bl W u ∧ ∀ (j t : Nat), j < s → ds[j]? = some (some t) → L j = true → facts j (act.eval (.tmp t)) u
  have1 : L s = true → ∃ u0 vs v, Bl W u0 ∧ (∀ (j t : Nat), j < s → ds[j]? = some (some t) → act.eval (.tmp t) = vs j ∧ facts j (vs j) u0) ∧ (∀ t, ds[s]? = some (some t) → act.eval (.tmp t) = v) ∧ (if L (s + 1) then PB vs v u0 u else PA vs v u0 u)
theorem region_qa {F : Fence} {n : Nat} {P : Program} {ops : Array Oper} {Q : Exit → Act → World → Prop} {a : Act} {W : World} {id : Nat} (hm : P.follows .mixedOrders = true) (ds : List (Option Nat)) (s : Nat) (hw : wellA ops ds s = true)
    (hsz0 : ds.all (fun d => match d with | some t => Nat.blt t a.tmps.size | none => true) = true) (facts : Nat → Value → World → Prop) (mono : ∀ j v u u', Bl u u' → facts j v u → facts j v u') (PA PB : (Nat → Value) → Value → World → World → Prop)
    (step : ∀ (j : Nat) (o : Oper) (t : Nat) (act : Act) (u : World), ops[j]? = some o → o.dst = some t → j < s → act.tmps.size = a.tmps.size → Bl W u → (∀ t, some t ∉ ds → act.eval (.tmp t) = a.eval (.tmp t)) → (∀ e ∈ o.after, Region.binds .any e = true → ∀ t, ds[e.on]? = some (some t) → facts e.on (act.eval (.tmp t)) u) →
      Oper.wpIn F n P o act u (fun act' u' => ∃ v, act' = act.put (some t) v ∧ facts j v u' ∧ Bl u u') Q)
    (app : ∀ (o : Oper) (t : Nat) (act : Act) (u : World) (vs : Nat → Value), ops[s]? = some o → o.dst = some t → act.tmps.size = a.tmps.size → Bl W u → (∀ t, some t ∉ ds → act.eval (.tmp t) = a.eval (.tmp t)) → (∀ (j t : Nat), j < s → ds[j]? = some (some t) → act.eval (.tmp t) = vs j ∧ facts j (vs j) u) →
      Oper.wpIn F n P o act u (fun act' u' => ∃ v, act' = act.put (some t) v ∧ PA vs v u u') Q)
    (store : ∀ (o : Oper) (act : Act) (u0 u : World) (vs : Nat → Value) (v : Value), ops[s + 1]? = some o → act.tmps.size = a.tmps.size → Bl W u0 → (∀ t, some t ∉ ds → act.eval (.tmp t) = a.eval (.tmp t)) → (∀ (j t : Nat), j < s → ds[j]? = some (some t) → act.eval (.tmp t) = vs j ∧ facts j (vs j) u0) → (∀ t, ds[s]? = some (some t) → act.eval (.tmp t) = v) → PA vs v u0 u →
      Oper.wpIn F n P o act u (fun act' u' => act' = act ∧ PB vs v u0 u') Q)
    (fin : ∀ (vs : Nat → Value) (v : Value) (u0 u : World), Bl W u0 → (∀ (j t : Nat), j < s → ds[j]? = some (some t) → facts j (vs j) u0) → PB vs v u0 u → Q .normal (putL ds (fun j => if j < s then vs j else v) 0 a) u) :
    (Code.region id ops true).wpIn F n P Q a W := by
  have H := wellA_well hw
  have hsz : ∀ t, some t ∈ ds → t < a.tmps.size := fun t ht => by have := List.all_eq_true.1 hsz0 _ ht; rw [Nat.blt_eq] at this; exact this
  have hlt : ∀ (j t : Nat), ds[j]? = some (some t) → j < ops.size := fun j t h => by have := (List.getElem?_eq_some_iff.1 h).1; rw [H.len] at this; exact this
  have hne : ∀ (i j t t' : Nat), ds[i]? = some (some t) → ds[j]? = some (some t') → i ≠ j → t ≠ t' := by
    have : ∀ (ds : List (Option Nat)), onceB ds = true → ∀ (i j t t' : Nat), ds[i]? = some (some t) → ds[j]? = some (some t') → i < j → t ≠ t' := by
      intro ds
      induction ds with
      | nil => intro _ i j t t' h; simp at h
      | cons d ds ih =>
        intro ho i j t t' h1 h2 hij
        simp only [onceB, Bool.and_eq_true] at ho
        cases j with
        | zero => omega
        | succ j =>
          cases i with
          | zero =>
            simp at h1 h2
            subst h1
            have := ho.1
            simp at this
            exact fun e => this _ (List.mem_of_getElem? h2) (by rw [e])
          | succ i => exact ih ho.2 i j t t' (by simpa using h1) (by simpa using h2) (by omega)
    intro i j t t' h1 h2 hij
    rcases Nat.lt_or_gt_of_ne hij with h | h
    · exact this ds H.once i j t t' h1 h2 h
    · exact (this ds H.once j i t' t h2 h1 h).symm
  have lastno : ∀ t : Nat, ds[s + 1]? ≠ some (some t) := fun t h => by
    have hl := hlt _ t h
    rw [H.dst _ _ (Array.getElem?_eq_getElem hl), (H.last _ (Array.getElem?_eq_getElem hl)).1] at h
    cases h
  refine region_facts2 hm (lowB2_low H.low) (RA W a ops ds s facts PA PB) ?_ ?_ ?_
  · exact ⟨rfl, rfl, fun _ _ => rfl, (by intro _ _ _ h; cases h), fun _ => ⟨(Bl.refl _).drew, (by intro _ _ _ _ h; cases h)⟩, (by intro h; cases h)⟩
  · intro L act u i o hI ho hLi hall
    have hil : i < ops.size := (Array.getElem?_eq_some_iff.1 ho).1
    refine step_wp ho (H.guard i o ho) ?_
    have hfr : ∀ t, some t ∉ ds → act.eval (.tmp t) = a.eval (.tmp t) := fun t ht => hI.frame t (fun j _ e => ht (List.mem_of_getElem? e))
    have shut' : ∀ (j : Nat) (o' : Oper), ops[j]? = some o' → (L j || (j == i)) = true → ∀ e ∈ o'.after, Region.binds .any e = true → (L e.on || (e.on == i)) = true := fun j o' ho' hj e he hb => by
      rw [Bool.or_eq_true] at hj
      rcases hj with hj | hj
      · rw [hI.shut j o' ho' hj e he hb]; rfl
      · obtain rfl : j = i := by simpa using hj
        rw [ho] at ho'
        cases ho'
        rw [hall e he hb]; rfl
    have below : ∀ (o : Oper), ops[s]? = some o → (∀ e ∈ o.after, Region.binds .any e = true → L e.on = true) → ∀ j, j < s → L j = true := by
      intro o ho hall j hj
      have done : ∀ m, ∀ j, s - j ≤ m → j < s → L j = true := by
        intro m
        induction m with
        | zero => intro j h1 h2; omega
        | succ m ih =>
          intro j h1 h2
          obtain ⟨k, o', e, hjk, hki, ho', he, hej, hbe⟩ := H.used j h2
          subst hej
          by_cases hk : k = s
          · subst hk
            rw [ho] at ho'
            cases ho'
            exact hall e he hbe
          · exact hI.shut k o' ho' (ih k (by omega) (by omega)) e he hbe
      exact done _ j (Nat.le_refl _) hj
    by_cases hi1 : i = s + 1
    · subst hi1
      obtain ⟨hd, e, he, hes, hbe⟩ := H.last o ho
      have hLs : L s = true := by have := hall e he hbe; rwa [hes] at this
      obtain ⟨u0, vs, v, hb, hf, hv, hP⟩ := hI.have1 hLs
      rw [hLi] at hP
      refine Oper.wpIn_mono ?_ (store o act u0 u vs v ho hI.size hb hfr hf hv hP)
      rintro act' u' ⟨rfl, hP'⟩
      refine ⟨hI.size, hI.defers, fun t ht => hI.frame t (fun j hj => ht j (by rw [hj]; rfl)), shut', fun h => by simp [hLs] at h, fun _ => ⟨u0, vs, v, hb, hf, hv, by simpa using hP'⟩⟩
    · obtain ⟨t, hdt⟩ := H.got i o ho hi1
      have hdi : ds[i]? = some (some t) := by rw [H.dst i o ho, hdt]
      have htl : t < act.tmps.size := by rw [hI.size]; exact hsz t (List.mem_of_getElem? hdi)
      have oth : ∀ (v : Value) (j t' : Nat), ds[j]? = some (some t') → j ≠ i → (act.put (some t) v).eval (.tmp t') = act.eval (.tmp t') := fun v j t' h hj => eval_put_other (hne j i t' t h hdi hj)
      have frame' : ∀ v, ∀ t', (∀ j, (L j || (j == i)) = true → ds[j]? ≠ some (some t')) → (act.put (some t) v).eval (.tmp t') = a.eval (.tmp t') := fun v t' h => by
        have h1 : t' ≠ t := fun e => h i (by simp) (by rw [e]; exact hdi)
        rw [eval_put_other h1]
        exact hI.frame t' (fun j hj => h j (by rw [hj]; rfl))
      have lastL : L s = false → L (s + 1) = false := fun h => by
        cases hh : L (s + 1) with
        | false => rfl
        | true =>
          have hl : s + 1 < ops.size := by rw [H.size]; omega
          obtain ⟨_, e, he, hes, hbe⟩ := H.last _ (Array.getElem?_eq_getElem hl)
          have := hI.shut _ _ (Array.getElem?_eq_getElem hl) hh e he hbe
          rw [hes, h] at this
          cases this
      by_cases his : i = s
      · subst his
        obtain ⟨hb, hf⟩ := hI.have0 hLi
        have vals : ∀ (j t : Nat), ds[j]? = some (some t) → act.eval (.tmp t) = (fun j => act.eval (.tmp ((ds[j]?.getD none).getD 0))) j := fun j t h => by simp [h]
        have hL1 := lastL hLi
        refine Oper.wpIn_mono ?_ (app o t act u (fun j => act.eval (.tmp ((ds[j]?.getD none).getD 0))) ho hdt hI.size hb hfr (fun j t' hj h => ⟨vals j t' h, by have := hf j t' hj h (below o ho hall j hj); rw [vals j t' h] at this; exact this⟩))
        rintro act' u' ⟨v, rfl, hP⟩
        refine ⟨by rw [size_put]; exact hI.size, by rw [defers_put]; exact hI.defers, frame' v, shut', fun h => by simp at h, fun _ => ⟨u, (fun j => act.eval (.tmp ((ds[j]?.getD none).getD 0))), v, hb, fun j t' hj h => ⟨?_, ?_⟩, fun t' h => ?_, ?_⟩⟩
        · rw [oth v j t' h (by omega)]; exact vals j t' h
        · have := hf j t' hj h (below o ho hall j hj); rw [vals j t' h] at this; exact this
        · rw [hdi] at h
          cases h
          exact eval_put_same htl
        · rw [if_neg (by simp [hL1])]
          exact hP
      · have hilt : i < s := by have := H.size; omega
        have hLs0 : L s = false := by
          cases hh : L s with
          | false => rfl
          | true =>
            have hl : s < ops.size := by rw [H.size]; omega
            have := below _ (Array.getElem?_eq_getElem hl) (fun e he hb => hI.shut s _ (Array.getElem?_eq_getElem hl) hh e he hb) i hilt
            rw [this] at hLi
            cases hLi
        obtain ⟨hb, hf⟩ := hI.have0 hLs0
        have hon : ∀ e ∈ o.after, Region.binds .any e = true → e.on < s := fun e he hbe => by have := lowB2_low H.low i o ho e he hbe; omega
        refine Oper.wpIn_mono ?_ (step i o t act u ho hdt hilt hI.size hb hfr (fun e he hbe t' ht' => hf e.on t' (hon e he hbe) ht' (hall e he hbe)))
        rintro act' u' ⟨v, rfl, hv, hb'⟩
        have hsi : (L s || (s == i)) = false := by
          have : (s == i) = false := by simpa using fun e => his e.symm
          rw [this, hLs0]; rfl
        refine ⟨by rw [size_put]; exact hI.size, by rw [defers_put]; exact hI.defers, frame' v, shut', fun _ => ⟨hb.trans hb', fun j t' hj' h hj => ?_⟩, fun h => by rw [hsi] at h; cases h⟩
        by_cases hji : j = i
        · subst hji
          rw [hdi] at h
          cases h
          rw [eval_put_same htl]
          exact hv
        · rw [oth v j t' h hji]
          exact mono _ _ _ _ hb' (hf j t' hj' h (by rw [Bool.or_eq_true] at hj; exact hj.resolve_right (by simpa using hji)))
  · intro L act u hI hall
    obtain ⟨u0, vs, v, hb, hf, hv, hP⟩ := hI.have1 (hall s (by rw [H.size]; omega))
    rw [if_pos (hall (s + 1) (by rw [H.size]; omega))] at hP
    have ev : ∀ (j t : Nat), ds[j]? = some (some t) → act.eval (.tmp t) = if j < s then vs j else v := fun j t h => by
      by_cases hj : j < s
      · rw [if_pos hj]; exact (hf j t hj h).1
      · rw [if_neg hj]
        have := hlt j t h
        rw [H.size] at this
        rcases (by omega : j = s ∨ j = s + 1) with rfl | rfl
        · exact hv t h
        · exact absurd h (lastno t)
    have e : act = putL ds (fun j => if j < s then vs j else v) 0 a := by
      refine act_ext (by rw [putL_size]; exact hI.size) (by rw [putL_defers]; exact hI.defers) fun t ht => ?_
      by_cases hm : some t ∈ ds
      · obtain ⟨j, hj⟩ := List.getElem?_of_mem hm
        rw [ev j t hj, putL_at ds _ t j 0 a H.once hj (hsz t hm), Nat.zero_add]
      · rw [putL_other ds _ t 0 a (fun d hd e => hm (e ▸ hd))]
        exact hI.frame t (fun j _ e => hm (List.mem_of_getElem? e))
    rw [e]
    exact fin vs v u0 u hb (fun j t hj h => (hf j t hj h).2) hP
end Go.Proofs.YtlbmkjicbkfmjaaGreat

/- Contract of tri's Diagonal, of enclosed numbers (layer 7). Written by genTr.py. -/
namespace Go.Proofs.YtlbmkjicbkfmjaaGreat
open Go.RowKit Go.Shelf
set_option linter.unusedSimpArgs false
set_option linter.unusedVariables false
attribute [local go_sem] Oper.semAt_some

set_option maxRecDepth 100000 in
set_option maxHeartbeats 4000000 in
theorem tDiagN (n : Nat) (p : Option Addr) (N cap : Nat) (f : Nat → Nat → En) (w : World) (h : Mx 4 cellsN w n n p N cap f) :
    Calls Tryz.prog 132 #[mV n n p N cap] w fun e w' => ∃ p' cap', e = .returned (.slice p' n cap') ∧ Rw 4 cellsN w' (.slice p' n cap') ((List.range n).map fun i => f i i) ∧ Bl w w' := by
  obtain ⟨i0, hi, hz0, hz1, hz2⟩ := info_parts Tryz.info_N
  have fm : Tryz.prog.follows .mixedOrders = true := by kernel_rfl
  refine (callsIn_wide (n := 8)).1 ?_
  have hsq : sqB n n N = true := by unfold sqB; rw [h.fit]; simp
  have hd := h.1
  have hn16 := hd.r2
  have HXm := hideP h
  clear h
  obtain ⟨W, hW⟩ : ∃ W, W = w.alloc (.cells #[.int .i64 n, .int .i64 n, .slice p N cap] 24) := ⟨_, rfl⟩
  have b0 : Bl w W := by rw [hW]; exact (Bl.refl _).alloc _
  have mx0 : MBox W w.heap.size n n p N cap := by rw [hW]; exact MBox.new w _ _ _ _ _ _
  have HW := hideP hW
  clear hW
  refine callsIn_of_wp_marks Tryz.func132 rfl trivial ?_ rfl
  simp only [Tryz.ntmps132, List.size_toArray, List.length_cons, List.length_nil, Nat.reduceAdd, Nat.reduceSub, Array.replicate_succ, Array.replicate_zero, List.push_toArray, List.append_toArray, List.nil_append, List.cons_append]
  gi_wp2_with fail
  rw [← HW.out]
  refine ⟨trivial, ?_⟩
  refine (callsIn_wide.2 (tSquareN _ _ _ _ _ _)).mono ?_
  rintro e w5 ⟨rfl, h5⟩
  rw [hsq]
  have mx5 := mx0.later h5
  have bw5 : Bl w w5 := b0.trans h5
  obtain ⟨c0, c1, c2, f0, f1, f2, lt⟩ := id mx5
  gi_wp2_with (gi_at_make; refine wpListIn_make_own _ rfl _ _ 22 rfl w5.heap.size 28 i0 (.agg #[.int .i64 0, .int .i64 0, .int .i64 0, .bool false]) 4 Tryz.underlying22 hi hz0 hz1 .i64 .i64 _ n rfl rfl (by simp) (by rw [hz2]; omega) (by unfold maxLen; omega) (by simp) ?_; intro w6 hown0 hgrow0; have mx6 := mbox_block mx5 (hgrow0.block _ mx5.lt nofun) hgrow0.size; clear c0 c1 c2 f0 f1 f2 lt; obtain ⟨c0, c1, c2, f0, f1, f2, lt⟩ := mx6)
  have h56 : Bl w5 w6 := ⟨hgrow0.os, hgrow0.tape, hgrow0.output, hgrow0.size, fun k hk => hgrow0.block k hk nofun⟩
  have hs6 : w5.heap.size ≤ w6.heap.size := hgrow0.size
  obtain ⟨w6b, hw6b⟩ : ∃ w6b, w6b = w6.alloc (.cells #[.slice (some ⟨w5.heap.size, 0, none⟩) 0 n] 22) := ⟨_, rfl⟩
  have h6b : Bl w6 w6b := by rw [hw6b]; exact (Bl.refl _).alloc _
  have hs6b : w6b.heap.size = w6.heap.size + 1 := by rw [hw6b]; simp
  have bl6 : Boxed w6b w6.heap.size 22 (.slice (some ⟨w5.heap.size, 0, none⟩) 0 n) := by rw [hw6b]; exact Boxed.new w6 _ _
  have hown6 : w6b.ownsRow w5.heap.size 28 4 (.slice (some ⟨w5.heap.size, 0, none⟩) 0 n) 0 [] := own_blN hown0 h6b
  have hlt5 : w5.heap.size < w6b.heap.size := by have := (hown6.lt w5.heap.size rfl).2; exact this
  have HW6 := hideP hw6b
  clear hw6b hown0 hgrow0 c0 c1 c2 f0 f1 f2 lt
  rw [← HW6.out]
  refine ⟨trivial, ?_⟩
  refine (callsIn_wide.2 (mAllN _ _ _ _ _ f _ (HXm.out.later ((bw5.trans h56).trans h6b)))).mono ?_
  rintro e w7 ⟨B2, p2, cap5, rfl, hK7, h7⟩
  have HK7 := hideP hK7
  clear hK7
  have hs7 : w6.heap.size + 1 ≤ w7.heap.size := by have := h7.size; omega
  have b57 : Below w5.heap.size w5 w7 := (h56.trans h6b).trans h7
  have bl7 := boxed_bl bl6 h7
  have own7 := own_blN hown6 h7
  clear bl6 hown6
  gi_wp2_with fail
  refine rangeV rfl (by omega) (gf := 128) (lb := #[.pointer (some ⟨B2, 0, none⟩)]) rfl trivial (enters_of Tryz.func128 (by kernel_rfl) rfl)
    (seqMN 7 B2 _ w7.heap.size n n p2 N cap5 f w7 (Nat.le_refl _) HK7.out) (fun x A B h => h.1) (fun h k => h.trans k) (span_b (Nat.le_refl _)) (fun _ => rfl)
    (fun (pre : List RowX) U => (∃ v, Boxed U w6.heap.size 22 v ∧ U.ownsRow w5.heap.size 28 4 v (pre.map fun x : RowX => f x.1 x.1).length ((pre.map fun x : RowX => f x.1 x.1).flatMap cellsN) ∧ (∀ b, v.ownBlock = some b → b < w6b.heap.size ∨ w7.heap.size ≤ b)) ∧ (Below w5.heap.size w5 U ∧ w7.heap.size ≤ U.heap.size))
    (fun _ _ _ => False)
    (OwnFrom.and (Own.from (holdsRow_own w5.heap.size w6.heap.size 22 28 4 (fun pre : List RowX => (pre.map fun x : RowX => f x.1 x.1).length) (fun pre : List RowX => (pre.map fun x : RowX => f x.1 x.1).flatMap cellsN) (fun _ v => ∀ b, v.ownBlock = some b → b < w6b.heap.size ∨ w7.heap.size ≤ b)) _) (OwnFrom.and (ownFrom_below (Nat.le_refl _) b57.size) (own_size _ _)))
    (fun _ _ _ _ _ hs _ _ => hs)
    ⟨⟨_, bl7, own7, fun b hb => by cases hb; exact .inl hlt5⟩, b57, Nat.le_refl _⟩
    (fun a x a' U => Rw 4 cellsN U (rowV n x) (rowM n f x.1) ∧ (x.1 < n ∧ a' = { tmps := ((((a.tmps.setIfInBounds 14 (.int .i64 x.1)).setIfInBounds 15 (rowV n x)).setIfInBounds 4 (.int .i64 x.1)).setIfInBounds 5 (rowV n x)), defers := [] }))
    (fun x a' _ X Y row hs hg hr => ⟨rw_own hs.1 hg (fun r e => (hr r e).2), hs.2⟩)
    ?assign ?body ?done ?stop
  case assign =>
    rintro l pre x W0 U K' _ ⟨hbU, hxR, hrow, hfr, hcc⟩ hI hK'
    have HK2 := hideP hK'
    have HI := hideP hI
    clear hK' hI
    gi_wp2
    exact HK2.out _ _ (KeepsFrom.refl _ _) (Span.refl _ _ _) HI.out ⟨hrow, hxR, rfl⟩
  case body =>
    rintro l pre x a' U hl' ⟨r, hr'⟩ ⟨⟨v0, hv0, hrow, hgv⟩, hbU, hsU⟩ ⟨hrx, hxn, rfl⟩ hlt
    simp only [List.setIfInBounds_toArray, List.set_cons_zero, List.set_cons_succ]
    gi_wp2_with fail
    have hlen2 : (pre.map fun x : RowX => f x.1 x.1).length ≤ 100000 := by rw [List.length_map]; omega
    have hne0 : some w6.heap.size ≠ v0.ownBlock := hv0.not_row (by decide) hrow
    obtain ⟨rb, ro, hp1, hrl, hrc⟩ := rw_cells7 hrx (show 0 < n by omega)
    have hb5 := b57.size
    have y0 : ∀ u, Bl U u → u.cell? ⟨rb, ro + x.1 * 4, none⟩ = some (.int .i64 (f x.1 x.1).v) := fun u hu => (bl_cell hu _ _ hrl).trans (hrc x.1 _ (rowM_get f x.1 hxn) 0 _ rfl)
    have y1 : ∀ u, Bl U u → u.cell? ⟨rb, ro + x.1 * 4 + 1, none⟩ = some (.int .i64 (f x.1 x.1).l) := fun u hu => (bl_cell hu _ _ hrl).trans (hrc x.1 _ (rowM_get f x.1 hxn) 1 _ rfl)
    have y2 : ∀ u, Bl U u → u.cell? ⟨rb, ro + x.1 * 4 + 2, none⟩ = some (.int .i64 (f x.1 x.1).h) := fun u hu => (bl_cell hu _ _ hrl).trans (hrc x.1 _ (rowM_get f x.1 hxn) 2 _ rfl)
    have y3 : ∀ u, Bl U u → u.cell? ⟨rb, ro + x.1 * 4 + 3, none⟩ = some (.bool (f x.1 x.1).bad) := fun u hu => (bl_cell hu _ _ hrl).trans (hrc x.1 _ (rowM_get f x.1 hxn) 3 _ rfl)
    refine (region_qa fm [some 16, some 17, some 18, some 19, some 20, some 21, some 22, none] 6 (by kernel_rfl) (by rfl)
      (fun j v u => match j with | 0 => v = v0 | 1 => v = rowV n x | 2 => v = .int .i64 x.1 | 3 => v = .pointer (some ⟨rb, ro + x.1 * 4, none⟩) | 4 => v = enV (f x.1 x.1) | 5 => ∃ gz, v = .slice (some ⟨gz, 0, none⟩) 1 1 ∧ Box u gz (f x.1 x.1) | _ => False)
      (by
        intro j v u u' hb h
        split at h <;> first | exact h | (obtain ⟨b, e, h1⟩ := h; exact ⟨b, e, h1.later hb⟩)) (fun vs v u0 u => ∃ g' cap', v = .slice (some ⟨g', 0, none⟩) ((pre.map fun x : RowX => f x.1 x.1).length + 1) cap' ∧ u0.grownBy u v0.ownBlock ∧ u.ownsRow w5.heap.size 28 4 (.slice (some ⟨g', 0, none⟩) ((pre.map fun x : RowX => f x.1 x.1).length + 1) cap') ((pre.map fun x : RowX => f x.1 x.1).length + 1) ((pre.map fun x : RowX => f x.1 x.1).flatMap cellsN ++ cellsN (f x.1 x.1)) ∧ (some g' = v0.ownBlock ∨ g' = u0.heap.size)) (fun vs v u0 u => ∃ wz g' cap', u = wz.setCell ⟨w6.heap.size, 0, none⟩ (.slice (some ⟨g', 0, none⟩) ((pre.map fun x : RowX => f x.1 x.1).length + 1) cap') ∧ u0.grownBy wz v0.ownBlock ∧ wz.ownsRow w5.heap.size 28 4 (.slice (some ⟨g', 0, none⟩) ((pre.map fun x : RowX => f x.1 x.1).length + 1) cap') ((pre.map fun x : RowX => f x.1 x.1).length + 1) ((pre.map fun x : RowX => f x.1 x.1).flatMap cellsN ++ cellsN (f x.1 x.1)) ∧ (some g' = v0.ownBlock ∨ g' = u0.heap.size)) ?step ?app ?store ?fin)
    case step =>
      intro j o t act u ho hdt hjs hsz hu hfr hin
      have e0 := y0 u hu; have e1 := y1 u hu; have e2 := y2 u hu; have e3 := y3 u hu
      rcases (by omega : j = 0 ∨ j = 1 ∨ j = 2 ∨ j = 3 ∨ j = 4 ∨ j = 5) with rfl | rfl | rfl | rfl | rfl | rfl
      · simp only [List.getElem?_toArray, List.getElem?_cons_zero, List.getElem?_cons_succ, Option.some.injEq] at ho
        subst ho
        obtain rfl := Option.some.inj hdt
        have i3 : act.eval (.tmp (3 : Nat)) = .pointer (some ⟨w6.heap.size, 0, none⟩) := hfr 3 (by decide)
        exact load_wp _ _ rfl (by rw [i3]; exact Tryz.load1N w6.heap.size _ u (boxed_bl hv0 hu).cell) ⟨_, rfl, rfl, Bl.refl _⟩
      · simp only [List.getElem?_toArray, List.getElem?_cons_zero, List.getElem?_cons_succ, Option.some.injEq] at ho
        subst ho
        obtain rfl := Option.some.inj hdt
        have i5 : act.eval (.tmp (5 : Nat)) = rowV n x := hfr 5 (by decide)
        exact plain_wp (by intro c h; cases h) (fun _ _ => trivial) (by simp only [execOp, i5, evalC, evalF, evalG]; simp [go_sem]) ⟨_, rfl, rfl, Bl.refl _⟩
      · simp only [List.getElem?_toArray, List.getElem?_cons_zero, List.getElem?_cons_succ, Option.some.injEq] at ho
        subst ho
        obtain rfl := Option.some.inj hdt
        have i4 : act.eval (.tmp (4 : Nat)) = .int .i64 x.1 := hfr 4 (by decide)
        exact plain_wp (by intro c h; cases h) (fun _ _ => trivial) (by simp only [execOp, i4, evalC, evalF, evalG]; simp [go_sem]) ⟨_, rfl, rfl, Bl.refl _⟩
      · simp only [List.getElem?_toArray, List.getElem?_cons_zero, List.getElem?_cons_succ, Option.some.injEq] at ho
        subst ho
        obtain rfl := Option.some.inj hdt
        have i17 : (act.eval (.tmp (17 : Nat))) = rowV n x := hin ⟨1, .data⟩ (by simp) rfl 17 rfl
        have i18 : (act.eval (.tmp (18 : Nat))) = .int .i64 x.1 := hin ⟨2, .data⟩ (by simp) rfl 18 rfl
        exact plain_wp (by intro c h; cases h) (fun _ _ => trivial) (by simp only [execOp, i17, i18, rowV, hp1]; simp [go_sem, hxn]) ⟨_, rfl, rfl, Bl.refl _⟩
      · simp only [List.getElem?_toArray, List.getElem?_cons_zero, List.getElem?_cons_succ, Option.some.injEq] at ho
        subst ho
        obtain rfl := Option.some.inj hdt
        have i19 : (act.eval (.tmp (19 : Nat))) = .pointer (some ⟨rb, ro + x.1 * 4, none⟩) := hin ⟨3, .data⟩ (by simp) rfl 19 rfl
        exact plain_wp (by intro c h; cases h) (fun _ _ => trivial) (by simp only [execOp, i19]; simp [go_sem, e0, e1, e2, e3]) ⟨_, rfl, rfl, Bl.refl _⟩
      · simp only [List.getElem?_toArray, List.getElem?_cons_zero, List.getElem?_cons_succ, Option.some.injEq] at ho
        subst ho
        obtain rfl := Option.some.inj hdt
        have i20 : (act.eval (.tmp (20 : Nat))) = enV (f x.1 x.1) := hin ⟨4, .data⟩ (by simp) rfl 20 rfl
        refine build_wp _ _ rfl (by rw [i20]; exact Tryz.build1N _ u) ?_
        exact ⟨_, rfl, ⟨u.heap.size, rfl, Box.new u _ _⟩, (Bl.refl _).alloc _⟩
    case app =>
      intro o t act u vs ho hdt hsz hu hfr hin
      simp only [List.getElem?_toArray, List.getElem?_cons_zero, List.getElem?_cons_succ, Option.some.injEq] at ho
      subst ho
      obtain rfl := Option.some.inj hdt
      obtain ⟨i16, k16⟩ : act.eval (.tmp (16 : Nat)) = vs 0 ∧ ((vs 0) = v0) := hin 0 16 (by omega) rfl
      obtain ⟨i21, k21⟩ : act.eval (.tmp (21 : Nat)) = vs 5 ∧ (∃ gz, (vs 5) = .slice (some ⟨gz, 0, none⟩) 1 1 ∧ Box u gz (f x.1 x.1)) := hin 5 21 (by omega) rfl
      obtain ⟨gz, eg, bz⟩ := k21
      rw [eg] at i21
      rw [k16] at i16
      refine stepIn_append (.tmp (16 : Nat)) (.tmp (21 : Nat)) 22 rfl w5.heap.size 28 i0 (.agg #[.int .i64 0, .int .i64 0, .int .i64 0, .bool false]) 4 32 Tryz.underlying22 hi hz0 hz1 hz2 rfl (by decide) v0 (pre.map fun x : RowX => f x.1 x.1).length ((pre.map fun x : RowX => f x.1 x.1).flatMap cellsN) i16 (own_blN hrow hu) ⟨gz, 0, none⟩ 1 1 (cellsN (f x.1 x.1)) i21 rfl bz.cells (oneN_cells _) (by unfold maxLen; omega) (by omega) (by have := hu.size; omega) ?_
      intro v' w5 hown' hgrow hat
      obtain ⟨g', cap', rfl⟩ := ownsRow_succ hown'
      refine ⟨_, rfl, g', cap', rfl, hgrow, hown', ?_⟩
      rcases hat with h | h
      · exact .inl h
      · exact .inr (by simpa [Value.ownBlock] using h)
    case store =>
      intro o act u0 u vs v ho hsz hu hfr hin hv hpa
      simp only [List.getElem?_toArray, List.getElem?_cons_zero, List.getElem?_cons_succ, Option.some.injEq] at ho
      subst ho
      have i3 : act.eval (.tmp (3 : Nat)) = .pointer (some ⟨w6.heap.size, 0, none⟩) := hfr 3 (by decide)
      have i22 : act.eval (.tmp (22 : Nat)) = v := hv 22 rfl
      obtain ⟨g', cap', rfl, hgrow, hown', hat⟩ := hpa
      have hbu := (boxed_bl hv0 hu).kept hgrow hne0
      exact skip_wp (by intro c h; cases h) (fun _ _ => trivial) (by simp only [execOp, i3, i22]; simp [go_sem, hbu.cell, hbu.frozen]) ⟨rfl, u, g', cap', rfl, hgrow, hown', hat⟩
    case fin =>
      intro vs v u0 u hu hin hpb
      obtain ⟨w8, g', cap', rfl, k2, k3, k4⟩ := hpb
      have k1 := hu
      clear hin
      have hvu := boxed_bl hv0 k1
      have hru := own_blN hrow k1
      have hsu := k1.size
      have hu5 : w5.heap.size ≤ u0.heap.size := by omega
      obtain ⟨hv5, hv6, hr6, hk6, hb6⟩ := boxed_appended hvu (by decide) hru hu5 (by omega) k3 k2
      have hg8 := k2.size
      refine ⟨(k1.keeps _).trans (hk6.from _), span_appended k1 (by omega) hgv k2 (by omega), ⟨_, hv6, ?_, ?_⟩, ?_, ?_⟩
      · rw [List.map_append]
        simpa [List.flatMap_append] using hr6
      · intro b hb
        have hb' : g' = b := by cases hb; rfl
        subst hb'
        rcases k4 with h | h
        · exact hgv _ h.symm
        · exact .inr (by omega)
      · exact hbU.trans ((k1.mono (by omega)).trans hb6)
      · simp; omega
  case done =>
    rintro Dm zs U hD hS ⟨⟨v, hv, hrow, _⟩, hb5, hs7'⟩ hKD
    have e : (zs.map fun x : RowX => f x.1 x.1) = (List.range n).map fun i => f i i := by rw [← hS, List.map_map]; rfl
    rw [e] at hrow
    have RW := Rw.of_own cellsN_len (ownsRow_putObj hrow (.deferred none) hKD rfl)
    obtain ⟨p', cap', hv', _, _⟩ := RW.cut
    rw [List.length_map, List.length_range] at hv'
    subst hv'
    have hcl := hv.cell
    have hbw : Bl w U := bw5.trans hb5
    have HRW := hideP RW
    have HKD := hideP hKD
    clear hrow RW hKD hv
    gi_wp2
    refine ⟨by simp, .inl ⟨_, _, rfl, run_takeDeferred HKD.out, ?_⟩⟩
    exact ⟨_, results_tmp rfl _ _ _, p', cap', rfl, HRW.out, Below.trans hbw (belowK_b (w := w) (Nat.le_refl _) U Dm _ _ (by have := bw5.size; have := b57.size; omega) HKD.out rfl rfl)⟩
  case stop =>
    rintro D' c pre U _ _ h _
    exact h.elim
theorem tDiagN_no (r c : Int) (p : Option Addr) (n cap : Nat) (w : World) (hsq : sqB r c n = false) :
    Calls Tryz.prog 132 #[mV r c p n cap] w fun e w' => e = .returned (.slice none 0 0) ∧ Bl w w' := by
  obtain ⟨W, hW⟩ : ∃ W, W = w.alloc (.cells #[.int .i64 r, .int .i64 c, .slice p n cap] 24) := ⟨_, rfl⟩
  have b0 : Bl w W := by rw [hW]; exact (Bl.refl _).alloc _
  have HW := hideP hW
  clear hW
  go_enter Tryz.func132, Tryz.ntmps132
  go_wp2_with fail
  rw [← HW.out]
  refine (tSquareN _ _ _ _ _ _).mono ?_
  rintro e w1 ⟨rfl, h1⟩
  rw [hsq]
  go_wp2
  go_ret
  exact ⟨rfl, b0.trans h1⟩
end Go.Proofs.YtlbmkjicbkfmjaaGreat

/- The loop of Rfv, where what a round is told may speak of all that came before. -/
namespace Go.Proofs.YtlbmkjicbkfmjaaGreat
open Go.RowKit
set_option linter.unusedSimpArgs false
set_option linter.unusedVariables false

/-- What the iterator's call leaves, the record and what else is no cells beside the invariant. -/
theorem rw_run {α : Type} {F : Fence} {n : Nat} {P : Program} {l B : Nat} {w W1 : World} (hB : B ≤ l) (hb : Bl w W1) (hlt1 : B ≤ W1.heap.size) {r : Loop} (hst : r.state = .ready) (hpe : r.pending = none) (hfn : F.fn r.fn)
    {gf : Nat} {lb : Array Value} {encs : α → Array Value} {V : α → World → World → Prop} {Kp : World → World → Prop} {S Sp : List α → Prop} {N : Nat} (hseq : SeqV F n P gf lb encs V Kp S Sp N w) (hV : ∀ x A B, V x A B → Bl A B)
    (hps : ∀ x, (encs x).size = r.params.size)
    (hKt : ∀ {A B C : World}, Kp A B → Kp B C → Kp A C) (hKb : ∀ (W : World) (l : Nat) (o o' : Obj), B ≤ l → W.heap[l]? = some o → o.isCells = false → o.isWalk = false → Kp W (W.putObj l o'))
    {I : List α → World → Prop} {Ix : Code → List α → World → Prop} (hI : OwnFrom B I) (hIx : ∀ c, OwnFrom B (Ix c)) {Ax : List α → α → Act → World → Prop} (hAx : ∀ pre x a', OwnFrom B (fun (_ : Unit) W => Ax pre x a' W))
    (hl : W1.heap[l]? = some (.loop r)) (h0 : I [] W1) (D : Nat) (od : Obj) (hD : B ≤ D) (hDl : D ≠ l) (hod : W1.heap[D]? = some od ∨ W1.heap.size ≤ D) (hoc : od.isCells = false) (how : od.isWalk = false)
    (hassign : ∀ (pre : List α) (x : α) (W0 W : World) (K : Act → World → Prop), I pre W0 → V x W0 W → I pre W → (∀ a' W', KeepsFrom B W W' → Kp W W' → I pre W' → Ax pre x a' W' → K a' W') →
      r.assign.wpIn (F.inRound l) (n - 1) P (Exit.then K (fun _ _ _ => False)) { tmps := (r.params.zip (encs x)).foldl (fun t (p, v) => t.setIfInBounds p v) r.tmps, defers := [] } W)
    (hbody : ∀ (pre : List α) (x : α) (a' : Act) (W : World), (∃ r', W.heap[l]? = some (.loop r')) → I pre W → Ax pre x a' W → pre.length < N → r.body.wpIn (F.inRound l) (n - 1) P (ownPostG B Kp I Ix (pre ++ [x]) W) a' W) :
    CallsIn F n P gf (#[.func (.yield l) #[] #[]] ++ lb) W1 fun e W' => (∃ v, e = .returned v) ∧ ((∃ xs, S xs ∧ I xs W' ∧ W'.heap[l]? = some (.loop r) ∧ (W1.heap[D]? = some od → W'.heap[D]? = some od)) ∨ ∃ pre c, Sp pre ∧ Ix c pre W' ∧ W'.heap[l]? = some (.loop (recOf r (some c))) ∧ (W1.heap[D]? = some od → W'.heap[D]? = some od)) := by
  have keep : ∀ {A C : World} {row : Option Nat}, A.grownBy C row → (∀ q, row = some q → W1.heap.size ≤ q ∧ ∃ o : Obj, A.heap[q]? = some o ∧ o.isWalk = true) → ∀ (k : Nat) (o : Obj), A.heap[k]? = some o → o.isWalk = false → C.heap[k]? = some o := by
    intro A C row hg hr k o hk ho
    refine (hg.block k (Array.getElem?_eq_some_iff.1 hk).1 (fun e => ?_)).trans hk
    obtain ⟨_, o', ho', hw⟩ := hr k e.symm
    rw [hk] at ho'
    cases ho'
    rw [ho] at hw
    cases hw
  have own : ∀ {A : World} {row : Option Nat}, (∀ q, row = some q → W1.heap.size ≤ q ∧ ∃ o : Obj, A.heap[q]? = some o ∧ o.isWalk = true) → ∀ q, row = some q → B ≤ q ∧ ∃ o : Obj, A.heap[q]? = some o ∧ o.isCells = false := by
    intro A row hr q e
    obtain ⟨h1, o, ho, hw⟩ := hr q e
    exact ⟨Nat.le_trans hlt1 h1, o, ho, Obj.not_cells_of_walk hw⟩
  refine (hseq l (fun pre W => I pre W ∧ W.heap[l]? = some (.loop r) ∧ (W1.heap[D]? = some od → W.heap[D]? = some od)) (fun pre W => ∃ c, Ix c pre W ∧ W.heap[l]? = some (.loop (recOf r (some c))) ∧ (W1.heap[D]? = some od → W.heap[D]? = some od)) W1 hb
    (fun s A C row hs hg hr => ⟨hI s A C row hs.1 hg (own hr), keep hg hr _ _ hs.2.1 rfl, fun h => keep hg hr _ _ (hs.2.2 h) how⟩)
    (fun s A C row hs hg hr => by obtain ⟨c, h1, h2, h3⟩ := hs; exact ⟨c, hIx c s A C row h1 hg (own hr), keep hg hr _ _ h2 rfl, fun h => keep hg hr _ _ (h3 h) how⟩) ?_ ⟨h0, hl, id⟩).mono ?_
  · rintro pre x W0 W ⟨i0, l0, d0⟩ hv hlen
    have hbv := hV x W0 W hv
    have hlW := (Below.block hbv l (Array.getElem?_eq_some_iff.1 l0).1).trans l0
    refine ((rv_round (Kp := Kp) (ys := pre ++ [x]) hB hst hfn (hps x) hKt hKb hI hIx (hAx pre x) hlW (fun K hK => hassign pre x W0 W K i0 hv (own_later hI hbv i0) hK) (fun a' W' hr hi ha => hbody pre x a' W' hr hi ha hlen)) : YieldAt F (n - 1) P l (encs x) W _).mono ?_
    rintro e W' ⟨j, rfl, hl', ho, hj⟩
    have hd' : W1.heap[D]? = some od → W'.heap[D]? = some od := fun h => ho D od hD hDl ((Below.block hbv D (Array.getElem?_eq_some_iff.1 (d0 h)).1).trans (d0 h)) hoc
    cases j with
    | none => exact .inl ⟨rfl, ⟨hj.1, by rw [recOf_none hst hpe] at hl'; exact hl', hd'⟩, hj.2⟩
    | some c => exact .inr ⟨rfl, c, hj, hl', hd'⟩
  · rintro e W' ⟨he, (⟨xs, h1, h2, h3, h4⟩ | ⟨pre, h1, c, h2, h3, h4⟩)⟩
    · exact ⟨he, .inl ⟨xs, h1, h2, h3, h4⟩⟩
    · exact ⟨he, .inr ⟨pre, c, h1, h2, h3, h4⟩⟩
/-- The loop, outside of a round. -/
theorem rangeW {α : Type} {F : Fence} {n : Nat} {P : Program} {g : Operand} {ps : Array Tmp} {assign body : Code} {Q : Exit → Act → World → Prop} {a : Act} {w : World}
    (hro : F.round = none) (h1 : 1 ≤ n) {gf : Nat} {lb : Array Value} (hg : a.eval g = .func (.func gf) #[] lb) (hFg : F.fn gf) (eg : ∀ args w, (callFunc gf args).run P w = .ok (.enter gf args) w)
    {encs : α → Array Value} {V : α → World → World → Prop} {Kp : World → World → Prop} {S Sp : List α → Prop} {N : Nat} (hseq : SeqV F (n - 1) P gf lb encs V Kp S Sp N w) (hV : ∀ x A B, V x A B → Bl A B)
    (hKt : ∀ {A B C : World}, Kp A B → Kp B C → Kp A C) (hKb : ∀ (W : World) (l : Nat) (o o' : Obj), w.heap.size ≤ l → W.heap[l]? = some o → o.isCells = false → o.isWalk = false → Kp W (W.putObj l o')) (hps : ∀ x, (encs x).size = ps.size)
    (I : List α → World → Prop) (Ix : Code → List α → World → Prop) (hI : OwnFrom w.heap.size I) (hIx : ∀ c, OwnFrom w.heap.size (Ix c)) (h0 : I [] w) (Ax : Act → List α → α → Act → World → Prop) (hAx : ∀ pre x a', OwnFrom w.heap.size (fun (_ : Unit) W => Ax a pre x a' W))
    (hassign : ∀ (l : Nat) (pre : List α) (x : α) (W0 W : World) (K : Act → World → Prop), I pre W0 → V x W0 W → I pre W → (∀ a' W', KeepsFrom w.heap.size W W' → Kp W W' → I pre W' → Ax a pre x a' W' → K a' W') →
      assign.wpIn (F.inRound l) (n - 1 - 1) P (Exit.then K (fun _ _ _ => False)) { tmps := (ps.zip (encs x)).foldl (fun t (p, v) => t.setIfInBounds p v) a.tmps, defers := [] } W)
    (hbody : ∀ (l : Nat) (pre : List α) (x : α) (a' : Act) (W : World), w.heap.size ≤ l → (∃ r, W.heap[l]? = some (.loop r)) → I pre W → Ax a pre x a' W → pre.length < N → body.wpIn (F.inRound l) (n - 1 - 1) P (ownPostG w.heap.size Kp I Ix (pre ++ [x]) W) a' W)
    (hdone : ∀ (D : Nat) (xs : List α) (W : World), w.heap.size ≤ D → S xs → I xs W → W.heap[D]? = some (.deferred (some [])) → Q .normal { a with defers := { target := .collected D, args := #[] } :: a.defers } W)
    (hstop : ∀ (D : Nat) (c : Code) (pre : List α) (W : World), w.heap.size ≤ D → Sp pre → Ix c pre W → W.heap[D]? = some (.deferred (some [])) → c.wpIn F n P Q { a with defers := { target := .collected D, args := #[] } :: a.defers } W) :
    (Code.rangeFunc g ps assign body).wpIn F n P Q a w := by
  refine wpIn_rangeFunc fun fn hfn => ?_
  rw [hro]
  have he := run_enterLoop_outer (P := P) (w := w) fn a.tmps ps assign body
  generalize hr : ({ state := .ready, pending := none, fn, tmps := a.tmps, params := ps, assign, body, defers := w.heap.size } : Loop) = r at he
  obtain ⟨e1, e2, e3, e4, e5, e6, e7⟩ : r.state = .ready ∧ r.pending = none ∧ r.fn = fn ∧ r.tmps = a.tmps ∧ r.params = ps ∧ r.assign = assign ∧ r.body = body := by rw [← hr]; exact ⟨rfl, rfl, rfl, rfl, rfl, rfl, rfl⟩
  clear hr
  generalize hW : (w.alloc (.deferred (some []))).alloc (.loop r) = W1 at he
  have hb : Bl w W1 := by rw [← hW]; exact ((Bl.refl w).alloc _).alloc _
  have hl : W1.heap[w.heap.size + 1]? = some (.loop r) := by
    rw [← hW]; have := World.alloc_heap_new (w.alloc (.deferred (some []))) (.loop r); rwa [World.size_alloc] at this
  have hd : W1.heap[w.heap.size]? = some (.deferred (some [])) := by rw [← hW]; exact (Below.heap_alloc _ _ _ (by simp)).trans (World.alloc_heap_new w _)
  refine ⟨_, _, _, { target := .fn (.func gf) lb, args := #[.func (.yield (w.heap.size + 1)) #[] #[]] }, W1, gf, #[.func (.yield (w.heap.size + 1)) #[] #[]] ++ lb, W1, he, ?_, ?_, ?_, fun _ => h1, ?_⟩
  · simp only [resolve, hg]
    simp [go_sem]
  · intro f' hf'
    simp [Target.leads] at hf'
    subst hf'
    exact hFg
  · simp [invoke, go_sem, eg]
  · refine (rw_run (Kp := Kp) (Ax := Ax a) (Nat.le_succ _) hb hb.size e1 e2 (e3 ▸ hfn) hseq hV (by rw [e5]; exact hps) hKt hKb hI hIx hAx hl (own_later hI hb h0) w.heap.size (.deferred (some [])) (Nat.le_refl _) (by omega) (.inl hd) rfl rfl
      (by rw [e4, e5, e6]; exact fun pre x W0 W K => hassign _ pre x W0 W K) (by rw [e7]; exact fun pre x a' W h => hbody _ pre x a' W (Nat.le_succ _) h)).mono ?_
    rintro e W' ⟨⟨v, rfl⟩, (⟨xs, h1, h2, h3, h4⟩ | ⟨pre, c, h1, h2, h3, h4⟩)⟩
    · have hq := run_endLoop (P := P) h3 (by rw [e1]; decide)
      rw [e2] at hq
      exact ⟨none, _, hq, hdone _ xs _ (Nat.le_refl _) h1 (hI.putObj _ h2 (Nat.le_succ _) h3 rfl) ((World.putObj_heap_other (by omega)).trans (h4 hd))⟩
    · have hq := run_endLoop (P := P) h3 (by simp [recOf])
      exact ⟨some c, _, hq, hstop _ c pre _ (Nat.le_refl _) h1 ((hIx c).putObj _ h2 (Nat.le_succ _) h3 rfl) ((World.putObj_heap_other (by omega)).trans (h4 hd))⟩
/-- The loop, within a round of another one. -/
theorem rangeWin {α : Type} {F : Fence} {n : Nat} {P : Program} {l₀ : Nat} {r₀ : Loop} {g : Operand} {ps : Array Tmp} {assign body : Code} {Q : Exit → Act → World → Prop} {a : Act} {w : World}
    (hro : F.round = some l₀) (hl₀ : w.heap[l₀]? = some (.loop r₀)) (h1 : 1 ≤ n) {gf : Nat} {lb : Array Value} (hg : a.eval g = .func (.func gf) #[] lb) (hFg : F.fn gf) (eg : ∀ args w, (callFunc gf args).run P w = .ok (.enter gf args) w)
    {encs : α → Array Value} {V : α → World → World → Prop} {Kp : World → World → Prop} {S Sp : List α → Prop} {N : Nat} (hseq : SeqV F (n - 1) P gf lb encs V Kp S Sp N w) (hV : ∀ x A B, V x A B → Bl A B)
    (hKt : ∀ {A B C : World}, Kp A B → Kp B C → Kp A C) (hKb : ∀ (W : World) (l : Nat) (o o' : Obj), w.heap.size ≤ l → W.heap[l]? = some o → o.isCells = false → o.isWalk = false → Kp W (W.putObj l o')) (hps : ∀ x, (encs x).size = ps.size)
    (I : List α → World → Prop) (Ix : Code → List α → World → Prop) (hI : OwnFrom w.heap.size I) (hIx : ∀ c, OwnFrom w.heap.size (Ix c)) (h0 : I [] w) (Ax : Act → List α → α → Act → World → Prop) (hAx : ∀ pre x a', OwnFrom w.heap.size (fun (_ : Unit) W => Ax a pre x a' W))
    (hassign : ∀ (l : Nat) (pre : List α) (x : α) (W0 W : World) (K : Act → World → Prop), I pre W0 → V x W0 W → I pre W → (∀ a' W', KeepsFrom w.heap.size W W' → Kp W W' → I pre W' → Ax a pre x a' W' → K a' W') →
      assign.wpIn (F.inRound l) (n - 1 - 1) P (Exit.then K (fun _ _ _ => False)) { tmps := (ps.zip (encs x)).foldl (fun t (p, v) => t.setIfInBounds p v) a.tmps, defers := [] } W)
    (hbody : ∀ (l : Nat) (pre : List α) (x : α) (a' : Act) (W : World), w.heap.size ≤ l → (∃ r, W.heap[l]? = some (.loop r)) → I pre W → Ax a pre x a' W → pre.length < N → body.wpIn (F.inRound l) (n - 1 - 1) P (ownPostG w.heap.size Kp I Ix (pre ++ [x]) W) a' W)
    (hdone : ∀ (xs : List α) (W : World), S xs → I xs W → Q .normal a W)
    (hstop : ∀ (c : Code) (pre : List α) (W : World), Sp pre → Ix c pre W → c.wpIn F n P Q a W) :
    (Code.rangeFunc g ps assign body).wpIn F n P Q a w := by
  refine wpIn_rangeFunc fun fn hfn => ?_
  rw [hro]
  have he := run_enterLoop_inner (P := P) hl₀ fn a.tmps ps assign body
  generalize hr : ({ state := .ready, pending := none, fn, tmps := a.tmps, params := ps, assign, body, defers := r₀.defers } : Loop) = r at he
  obtain ⟨e1, e2, e3, e4, e5, e6, e7⟩ : r.state = .ready ∧ r.pending = none ∧ r.fn = fn ∧ r.tmps = a.tmps ∧ r.params = ps ∧ r.assign = assign ∧ r.body = body := by rw [← hr]; exact ⟨rfl, rfl, rfl, rfl, rfl, rfl, rfl⟩
  clear hr
  generalize hW : w.alloc (.loop r) = W1 at he
  have hb : Bl w W1 := by rw [← hW]; exact (Bl.refl w).alloc _
  have hl : W1.heap[w.heap.size]? = some (.loop r) := by rw [← hW]; exact World.alloc_heap_new w _
  have hs1 : W1.heap.size = w.heap.size + 1 := by rw [← hW]; simp
  refine ⟨_, _, _, { target := .fn (.func gf) lb, args := #[.func (.yield w.heap.size) #[] #[]] }, W1, gf, #[.func (.yield w.heap.size) #[] #[]] ++ lb, W1, he, ?_, ?_, ?_, fun _ => h1, ?_⟩
  · simp only [resolve, hg]
    simp [go_sem]
  · intro f' hf'
    simp [Target.leads] at hf'
    subst hf'
    exact hFg
  · simp [invoke, go_sem, eg]
  · refine (rw_run (Kp := Kp) (Ax := Ax a) (Nat.le_refl _) hb hb.size e1 e2 (e3 ▸ hfn) hseq hV (by rw [e5]; exact hps) hKt hKb hI hIx hAx hl (own_later hI hb h0) (w.heap.size + 1) (.deferred (some [])) (Nat.le_succ _) (by omega) (.inr (by omega)) rfl rfl
      (by rw [e4, e5, e6]; exact fun pre x W0 W K => hassign _ pre x W0 W K) (by rw [e7]; exact fun pre x a' W h => hbody _ pre x a' W (Nat.le_refl _) h)).mono ?_
    rintro e W' ⟨⟨v, rfl⟩, (⟨xs, h1, h2, h3, _⟩ | ⟨pre, c, h1, h2, h3, _⟩)⟩
    · have hq := run_endLoop (P := P) h3 (by rw [e1]; decide)
      rw [e2] at hq
      exact ⟨none, _, hq, hdone xs _ h1 (hI.putObj _ h2 (Nat.le_refl _) h3 rfl)⟩
    · have hq := run_endLoop (P := P) h3 (by simp [recOf])
      exact ⟨some c, _, hq, hstop c pre _ h1 ((hIx c).putObj _ h2 (Nat.le_refl _) h3 rfl)⟩
theorem RwZ.own {α : Type} {s : Nat} {c : α → List Value} (hs : ∀ x, (c x).length = s) (s0 : 0 < s) {X Y : World} {lo : Nat} {v : Value} {xs : List α} {row : Option Nat} (h : RwZ s c X lo v xs) (hne : xs ≠ []) (hg : X.grownBy Y row) (hr : ∀ r, row = some r → ∃ o : Obj, X.heap[r]? = some o ∧ o.isCells = false) : RwZ s c Y lo v xs := by
  obtain ⟨b, cap, rfl, hc, hlo, hb, hf, hx⟩ := h
  obtain ⟨x0, xs', rfl⟩ := List.exists_cons_of_ne_nil hne
  have hcell := hx 0 x0 rfl 0 _ (List.getElem?_eq_getElem (by rw [hs]; exact s0))
  have hbr : row ≠ some b := by
    intro e
    obtain ⟨o, ho, hoc⟩ := hr b e
    unfold World.cell? at hcell
    simp only [ho] at hcell
    cases o <;> simp_all [Obj.isCells]
  have hblk := hg.block b hb (fun e => hbr e.symm)
  exact ⟨b, cap, rfl, hc, hlo, Nat.lt_of_lt_of_le hb hg.size, fun o => (World.frozen?_of_block (a := ⟨b, o, none⟩) hblk).trans (hf o), fun j x hj k u hu => (World.cell?_of_block (a := ⟨b, j * s + k, none⟩) hblk).trans (hx j x hj k u hu)⟩
/-- A row's block that an append to another row, and a store into a variable, leave as it was. -/
theorem RwZ.beside {α : Type} {s : Nat} {c : α → List Value} {u w5 : World} {lo B : Nat} {v v' : Value} {xs : List α} {row : Option Nat} (h : RwZ s c u lo v xs) (hg : u.grownBy w5 row) (hne : ∀ g, v.ownBlock = some g → row ≠ some g ∧ g ≠ B) : RwZ s c (w5.setCell ⟨B, 0, none⟩ v') lo v xs := by
  obtain ⟨b, cap, rfl, hc, hlo, hb, hf, hx⟩ := h
  have h1 := hne b rfl
  have hk : (w5.setCell ⟨B, 0, none⟩ v').heap[b]? = u.heap[b]? := (Below.heap_setCell _ _ _ b (by show b ≠ B; exact h1.2)).trans (hg.block b hb (fun e => h1.1 e.symm))
  exact ⟨b, cap, rfl, hc, hlo, by simp; exact Nat.lt_of_lt_of_le hb hg.size, fun o => (World.frozen?_of_block (a := ⟨b, o, none⟩) hk).trans (hf o), fun j x hj k u hu => (World.cell?_of_block (a := ⟨b, j * s + k, none⟩) hk).trans (hx j x hj k u hu)⟩
/-- A row's value, as the cell of a table. -/
abbrev hdC (C : Nat) (x : RowX) : List Value := [rowV C x]
theorem hd_flat (C : Nat) : ∀ (pre : List RowX), (pre.flatMap (hdC C)).length = pre.length
  | [] => rfl
  | x :: pre => by rw [List.flatMap_cons, List.length_append, hd_flat C pre, List.length_cons]; simp [hdC]; omega
theorem hd_get (C : Nat) : ∀ (pre : List RowX) (i : Nat) (x : RowX), pre[i]? = some x → (pre.flatMap (hdC C))[i]? = some (rowV C x)
  | [], i, x, h => by simp at h
  | y :: pre, 0, x, h => by simp at h; subst h; rfl
  | y :: pre, i + 1, x, h => by
    rw [List.flatMap_cons]
    show ([rowV C y] ++ pre.flatMap (hdC C))[i + 1]? = _
    rw [List.getElem?_append_right (by simp)]
    exact hd_get C pre i x (by simpa using h)
/-- The rows that have come: each in a block of its own. -/
def RowsZ {α : Type} (s : Nat) (c : α → List Value) (lo R C : Nat) (f : Nat → Nat → α) (pre : List RowX) (U : World) : Prop :=
  (∀ y ∈ pre, RwZ s c U lo (rowV C y) (rowM C f y.1) ∧ y.1 < R) ∧ pre.Pairwise fun x y => (rowV C x).ownBlock ≠ (rowV C y).ownBlock
theorem rowsZ_own {α : Type} {s : Nat} {c : α → List Value} (hs : ∀ x, (c x).length = s) (s0 : 0 < s) (B lo R C : Nat) (h0 : 0 < C) (f : Nat → Nat → α) : OwnFrom B (RowsZ s c lo R C f) :=
  fun pre X Y row h hg hr => ⟨fun y hy => ⟨(h.1 y hy).1.own hs s0 (by intro e; have := congrArg List.length e; rw [rowM_len] at this; simp at this; omega) hg (fun r e => (hr r e).2), (h.1 y hy).2⟩, h.2⟩
/-- The table of all rows. -/
theorem Tbl.of {α : Type} {s : Nat} {c : α → List Value} {U : World} {base lo R C : Nat} {t : TypeId} {f : Nat → Nat → α} {zs : List RowX} {v : Value} (hS : zs.map (·.1) = List.range R) (hR : 0 < R)
    (hrow : U.ownsRow base t 1 v zs.length (zs.flatMap (hdC C))) (hZ : RowsZ s c lo R C f zs U) (hG : ∀ y ∈ zs, v.ownBlock ≠ (rowV C y).ownBlock) :
    ∃ H hc B cp, v = .slice (some ⟨H, 0, none⟩) R hc ∧ R ≤ hc ∧ base ≤ H ∧ Tbl s c U H B cp R C f ∧ ∀ i, i < R → lo ≤ B i := by
  have hlen : zs.length = R := by have := congrArg List.length hS; simpa using this
  have at_ : ∀ i, i < R → ∃ x, zs[i]? = some x ∧ x.1 = i ∧ ∃ b, x.2.1 = some ⟨b, 0, none⟩ ∧ C ≤ x.2.2 ∧ lo ≤ b ∧ b < U.heap.size ∧ (∀ o, U.frozen? ⟨b, o, none⟩ = false) ∧ ∀ j z, (rowM C f i)[j]? = some z → ∀ k u, (c z)[k]? = some u → U.cell? ⟨b, j * s + k, none⟩ = some u := fun i hi => by
    have hx : zs[i]? = some (zs[i]'(by omega)) := List.getElem?_eq_getElem (by omega)
    have h1 : (zs[i]'(by omega)).1 = i := by
      have := congrArg (·[i]?) hS
      simp only [List.getElem?_map, hx, List.getElem?_range hi, Option.map_some, Option.some.injEq] at this
      exact this
    obtain ⟨b, cap, e, hc, hlo, hb, hf, hcell⟩ := (hZ.1 _ (List.mem_of_getElem? hx)).1
    rw [h1] at hcell
    simp only [rowV, Value.slice.injEq] at e
    rw [rowM_len] at hc
    exact ⟨_, hx, h1, b, e.1, by rw [e.2.2]; exact hc, hlo, hb, hf, hcell⟩
  have ex : ∀ i, ∃ b, i < R → ∃ x, zs[i]? = some x ∧ x.1 = i ∧ x.2.1 = some ⟨b, 0, none⟩ ∧ C ≤ x.2.2 ∧ lo ≤ b ∧ b < U.heap.size ∧ (∀ o, U.frozen? ⟨b, o, none⟩ = false) ∧ ∀ j z, (rowM C f i)[j]? = some z → ∀ k u, (c z)[k]? = some u → U.cell? ⟨b, j * s + k, none⟩ = some u := fun i => by
    by_cases hi : i < R
    · obtain ⟨x, h1, h2, b, h3⟩ := at_ i hi
      exact ⟨b, fun _ => ⟨x, h1, h2, h3⟩⟩
    · exact ⟨0, fun h => absurd h hi⟩
  obtain ⟨B, hB⟩ := Classical.axiomOfChoice ex
  have hB : ∀ i, i < R → ∃ x, zs[i]? = some x ∧ x.1 = i ∧ x.2.1 = some ⟨B i, 0, none⟩ ∧ C ≤ x.2.2 ∧ lo ≤ B i ∧ B i < U.heap.size ∧ (∀ o, U.frozen? ⟨B i, o, none⟩ = false) ∧ ∀ j z, (rowM C f i)[j]? = some z → ∀ k u, (c z)[k]? = some u → U.cell? ⟨B i, j * s + k, none⟩ = some u := hB
  have hlt := hrow.lt
  have hcs : ∀ g, v.ownBlock = some g → ∀ j u, (zs.flatMap (hdC C))[j]? = some u → U.cell? ((⟨g, 0, none⟩ : Addr).add j) = some u := fun g hg => hrow.cells hg
  rcases hrow.2 with ⟨_, e0⟩ | ⟨H, hc, cur, rfl, hbs, _, hcap, _⟩
  · omega
  · refine ⟨H, hc, B, fun i => ((zs[i]?.map fun x : RowX => x.2.2).getD 0), by rw [hlen], by omega, hbs, ⟨fun i hi => ?_, (hlt H rfl).2, fun i hi => ?_, fun i j hi hj e => ?_, fun i hi e => ?_, fun i hi => ?_, fun i j hi hj k u hu => ?_, fun i hi => ?_⟩, fun i hi => ?_⟩
    · obtain ⟨x, hx, h1, h2, _⟩ := hB i hi
      have := hcs H rfl i _ (hd_get C zs i x hx)
      have hadd : (⟨H, 0, none⟩ : Addr).add i = ⟨H, i, none⟩ := by unfold Addr.add; split <;> simp_all
      rw [hadd] at this
      rw [this, hx]
      simp only [rowV, Option.map_some, Option.getD_some, h2]
    · obtain ⟨x, _, _, _, _, _, h, _⟩ := hB i hi
      exact h
    · obtain ⟨x, hx, h1, h2, _⟩ := hB i hi
      obtain ⟨y, hy, k1, k2, _⟩ := hB j hj
      have P := List.pairwise_iff_getElem.1 hZ.2
      have ex : zs[i]'(by omega) = x := by rw [List.getElem?_eq_getElem (by omega)] at hx; exact Option.some.inj hx
      have ey : zs[j]'(by omega) = y := by rw [List.getElem?_eq_getElem (by omega)] at hy; exact Option.some.inj hy
      have same : (rowV C x).ownBlock = (rowV C y).ownBlock := by unfold rowV; rw [h2, k2, e]; rfl
      rcases Nat.lt_trichotomy i j with h | h | h
      · have := P i j (by omega) (by omega) h
        rw [ex, ey] at this
        exact absurd same this
      · exact h
      · have := P j i (by omega) (by omega) h
        rw [ex, ey] at this
        exact absurd same.symm this
    · obtain ⟨x, hx, h1, h2, _⟩ := hB i hi
      refine hG x (List.mem_of_getElem? hx) ?_
      unfold rowV
      rw [h2, e]
      rfl
    · obtain ⟨x, hx, _, _, h, _⟩ := hB i hi
      rw [hx]
      exact h
    · obtain ⟨x, _, _, _, _, _, _, _, h⟩ := hB i hi
      exact h j (f i j) (rowM_get f i hj) k u hu
    · obtain ⟨x, _, _, _, _, _, _, h, _⟩ := hB i hi
      exact h
    · obtain ⟨x, _, _, _, _, h, _⟩ := hB i hi
      exact h
theorem rq_own8 {α : Type} {s : Nat} {c : α → List Value} {X Y : World} {v : Value} {xs : List α} {row : Option Nat} (h : Rq s c X v xs) (hg : X.grownBy Y row) (hr : ∀ r, row = some r → ∃ o : Obj, X.heap[r]? = some o ∧ o.isCells = false) : Rq s c Y v xs := by
  rcases h with h | ⟨b, o, cap, rfl, hc, hb, hx⟩
  · exact .inl h
  · exact .inr ⟨b, o, cap, rfl, hc, Nat.lt_of_lt_of_le hb hg.size, fun j x hj k u hu => cell_kept (hx j x hj k u hu) hg hr⟩
theorem mx_own8 {α : Type} {s : Nat} {c : α → List Value} {X Y : World} {R C : Nat} {p : Option Addr} {n cap : Nat} {f : Nat → Nat → α} {row : Option Nat} (h : Mx s c X R C p n cap f) (hg : X.grownBy Y row) (hr : ∀ r, row = some r → ∃ o : Obj, X.heap[r]? = some o ∧ o.isCells = false) : Mx s c Y R C p n cap f :=
  ⟨h.1, h.2.1, rq_own8 h.2.2 hg hr⟩
theorem own_slice8 {w : World} {B : Nat} {e : TypeId} {s n : Nat} {v : Value} {xs : List Value} (h : w.ownsRow B e s v n xs) (h0 : 0 < n) : ∃ g c, v = .slice (some ⟨g, 0, none⟩) n c := by
  rcases h.2 with ⟨_, e0⟩ | ⟨g, cap, cur, rfl, _⟩
  · omega
  · exact ⟨g, cap, rfl⟩
end Go.Proofs.YtlbmkjicbkfmjaaGreat
