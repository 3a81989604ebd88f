/- Roots of squares of whole numbers, enclosed; matrices of whole numbers that came in as rows (layer 7). -/
import Derived.Test.YtbfdkahbnfpabaaGreatMa0
import Derived.Test.YtbfdkahbnfpabaaGreatG4
import Derived.Test.YtbfdkahbnfpabaaGreatG5
import Derived.RangeFuncNested
import Derived.RangeFuncBound
import Derived.RangeFuncCalls
import Derived.RangeFuncLeaves
import Derived.Shelf.Abstract
import Derived.Shelf.RegionOpen
import Derived.OwnWalkIn
import Derived.TacticsInMore
import Derived.LoopNIn
import Derived.LoopIn
import Derived.Test.YtbfdkahbnfpabaaGreatG3
import Derived.Test.YtbfdkahbnfpabaaGreatG6
/- Contracts of mat's Right, New, Whole, of enclosed numbers (layer 6). Written by genMa.py. -/
namespace Go.Proofs.YtbfdkahbnfpabaaGreat
open Go.RowKit
set_option linter.unusedSimpArgs false
set_option linter.unusedVariables false

theorem mRightN (r c : Int) (p : Option Addr) (n cap : Nat) (w : World) :
    Calls Tryz.prog 58 #[mV r c p n cap] w fun e w' => e = .returned (.bool (fitB r c n)) ∧ Bl w w' := by
  go_enter Tryz.func58, Tryz.ntmps58
  go_wp2_with fail
  refine (fits_any _ _ _ _).mono ?_
  rintro e w1 ⟨rfl, rfl⟩
  go_wp2
  go_ret
  exact ⟨rfl, (Bl.refl _).alloc _⟩
theorem mNewN_no (r c : Int) (p : Option Addr) (n cap : Nat) (w : World) (h : fitB r c n = false) :
    Calls Tryz.prog 69 #[.int .i64 r, .int .i64 c, .slice p n cap] w fun e w' => e = .returned (.tuple #[mV 0 0 none 0 0, .bool false]) ∧ Bl w w' := by
  go_enter Tryz.func69, Tryz.ntmps69
  go_wp2_with fail
  refine (fits_any _ _ _ _).mono ?_
  rintro e w1 ⟨rfl, rfl⟩
  rw [h]
  go_wp2
  simp [bodyPost, results, Tryz.results69, go_sem]
  exact (Bl.refl _).alloc _
theorem mNewN (r c : Int) (p : Option Addr) (n cap : Nat) (xs : List En) (w : World) (hr : Rq 4 cellsN w (.slice p n cap) xs) (h : fitB r c n = true) (hn : xs.length = n) :
    Calls Tryz.prog 69 #[.int .i64 r, .int .i64 c, .slice p n cap] w fun e w' => ∃ p' cap', e = .returned (.tuple #[mV r c p' n cap', .bool true]) ∧ (Rw 4 cellsN w' (.slice p' n cap') xs ∧ Fresh w.heap.size (.slice p' n cap')) ∧ Bl w w' := by
  have hl : n ≤ 1000000 := by obtain ⟨R, C, _, _, hd, rfl⟩ := fitB_nat h; have := hd.lt; omega
  obtain ⟨W, hW⟩ : ∃ W, W = w.alloc (.cells #[.int .i64 0, .int .i64 0, .slice none 0 0] 36) := ⟨_, rfl⟩
  have b0 : Bl w W := by rw [hW]; exact (Bl.refl _).alloc _
  have x0 : MBox W w.heap.size 0 0 none 0 0 := by rw [hW]; exact MBox.new w 0 0 none 0 0 _
  have hsz : W.heap.size = w.heap.size + 1 := by rw [hW]; simp
  have CL := hideP (vCloneN (.slice p n cap) xs W (hr.later b0) (by omega))
  have HW := hideP hW
  clear hW hr
  go_enter Tryz.func69, Tryz.ntmps69
  go_wp2_with fail
  rw [← HW.out]
  refine (fits_any _ _ _ _).mono ?_
  rintro e w1 ⟨rfl, rfl⟩
  rw [h]
  go_wp2_with fail
  refine CL.out.mono ?_
  rintro e w2 ⟨u, rfl, hR, hF, h2⟩
  obtain ⟨p', cap', rfl, _, _⟩ := hR.cut
  rw [hn] at hR hF ⊢
  have HR := hideP hR
  have HF := hideP hF
  obtain ⟨c0, c1, c2, f0, f1, f2, lt⟩ := x0.later h2
  clear hR hF CL
  go_wp2
  simp [bodyPost, results, Tryz.results69, go_sem, c0, c1, c2]
  refine ⟨p', cap', ⟨rfl, rfl⟩, ⟨((HR.out.set _ ?_).set _ ?_).set _ ?_, fun g hg => ?_⟩, Bl.put3 (b0.trans h2) (Nat.le_refl _) _ _ _⟩
  · exact fun g hg => by have := HF.out g hg; show w.heap.size + 1 ≤ g; omega
  · exact fun g hg => by have := HF.out g hg; show w.heap.size + 1 ≤ g; omega
  · exact fun g hg => by have := HF.out g hg; show w.heap.size + 1 ≤ g; omega
  · have := HF.out g hg; omega
theorem mWholeN_no (r c : Int) (p : Option Addr) (n cap : Nat) (w : World) (h : fitB r c n = false) :
    Calls Tryz.prog 11 #[.int .i64 r, .int .i64 c, .slice p n cap] w fun e w' => e = .returned (.tuple #[mV 0 0 none 0 0, .bool false]) ∧ Bl w w' := by
  go_enter Tryz.func11, Tryz.ntmps11
  go_wp2_with fail
  refine (fits_any _ _ _ _).mono ?_
  rintro e w1 ⟨rfl, rfl⟩
  rw [h]
  go_wp2
  simp [bodyPost, results, Tryz.results11, go_sem]
  exact (Bl.refl _).alloc _
theorem mWholeN (r c : Int) (p : Option Addr) (n cap : Nat) (ns : List Int) (w : World) (hr : Rq 1 (fun n => [.int .i64 n]) w (.slice p n cap) ns) (h : fitB r c n = true) (hn : ns.length = n) :
    Calls Tryz.prog 11 #[.int .i64 r, .int .i64 c, .slice p n cap] w fun e w' => ∃ p' cap', e = .returned (.tuple #[mV r c p' n cap', .bool true]) ∧ Rw 4 cellsN w' (.slice p' n cap') (ns.map wholeN) ∧ Bl w w' := by
  have hl : n ≤ 1000000 := by obtain ⟨R, C, _, _, hd, rfl⟩ := fitB_nat h; have := hd.lt; omega
  obtain ⟨W, hW⟩ : ∃ W, W = w.alloc (.cells #[.int .i64 0, .int .i64 0, .slice none 0 0] 36) := ⟨_, rfl⟩
  have b0 : Bl w W := by rw [hW]; exact (Bl.refl _).alloc _
  have x0 : MBox W w.heap.size 0 0 none 0 0 := by rw [hW]; exact MBox.new w 0 0 none 0 0 _
  have hsz : W.heap.size = w.heap.size + 1 := by rw [hW]; simp
  have CL := hideP (vWholeN' (.slice p n cap) ns W (hr.later b0) (by omega))
  have HW := hideP hW
  clear hW hr
  go_enter Tryz.func11, Tryz.ntmps11
  go_wp2_with fail
  rw [← HW.out]
  refine (fits_any _ _ _ _).mono ?_
  rintro e w1 ⟨rfl, rfl⟩
  rw [h]
  go_wp2_with fail
  refine CL.out.mono ?_
  rintro e w2 ⟨u, rfl, hR, hF, h2⟩
  obtain ⟨p', cap', rfl, _, _⟩ := hR.cut
  rw [List.length_map, hn] at hR hF ⊢
  have HR := hideP hR
  have HF := hideP hF
  obtain ⟨c0, c1, c2, f0, f1, f2, lt⟩ := x0.later h2
  clear hR hF CL
  go_wp2
  simp [bodyPost, results, Tryz.results11, go_sem, c0, c1, c2]
  refine ⟨p', cap', ⟨rfl, rfl⟩, ((HR.out.set _ ?_).set _ ?_).set _ ?_, Bl.put3 (b0.trans h2) (Nat.le_refl _) _ _ _⟩
  · exact fun g hg => by have := HF.out g hg; show w.heap.size + 1 ≤ g; omega
  · exact fun g hg => by have := HF.out g hg; show w.heap.size + 1 ≤ g; omega
  · exact fun g hg => by have := HF.out g hg; show w.heap.size + 1 ≤ g; omega
end Go.Proofs.YtbfdkahbnfpabaaGreat

/- Contracts of mat's At, Row, of enclosed numbers (layer 6). Written by genMa.py. -/
namespace Go.Proofs.YtbfdkahbnfpabaaGreat
open Go.RowKit
set_option linter.unusedSimpArgs false
set_option linter.unusedVariables false

theorem Tryz.info_MN : (Tryz.prog.info? 36).map (fun i => (i.zero, i.size, i.bytes)) = some (some (.agg #[.int .i64 0, .int .i64 0, .slice none 0 0]), 3, 40) := by kernel_rfl
theorem mAtN (R C : Nat) (p : Option Addr) (n cap : Nat) (f : Nat → Nat → En) (w : World) (h : Mx 4 cellsN w R C p n cap f) (i k : Nat) (hi : i < R) (hk : k < C) :
    Calls Tryz.prog 38 #[mV R C p n cap, .int .i64 i, .int .i64 k] w fun e w' => e = .returned (enV (f i k)) ∧ Bl w w' := by
  have hfit := h.fit
  obtain ⟨b, o, rfl, hc, hb, HC⟩ := h.cells
  obtain ⟨hd, hn, -⟩ := h
  have CX := HC i k hi hk
  clear HC
  have ha1 := amongB_t hi
  have ha2 := amongB_t hk
  obtain ⟨a, q, e1, e2, hq1, hq3, hq5, hq6⟩ := place hd hi hk
  rw [← e2] at CX
  rw [← hn] at hq5
  clear e1 e2
  generalize hx : f i k = x at *
  have y0 : ∀ u, Bl w u → u.cell? ⟨b, o + q * 4, none⟩ = some (.int .i64 x.v) := fun u hu => (bl_cell hu _ _ hb).trans (CX 0 _ rfl)
  have y1 : ∀ u, Bl w u → u.cell? ⟨b, o + q * 4 + 1, none⟩ = some (.int .i64 x.l) := fun u hu => (bl_cell hu _ _ hb).trans (CX 1 _ rfl)
  have y2 : ∀ u, Bl w u → u.cell? ⟨b, o + q * 4 + 2, none⟩ = some (.int .i64 x.h) := fun u hu => (bl_cell hu _ _ hb).trans (CX 2 _ rfl)
  have y3 : ∀ u, Bl w u → u.cell? ⟨b, o + q * 4 + 3, none⟩ = some (.bool x.bad) := fun u hu => (bl_cell hu _ _ hb).trans (CX 3 _ rfl)
  clear CX hx
  have h16 := hd.lt
  rw [← hn] at h16
  clear hn
  obtain ⟨W, hW⟩ : ∃ W, W = (w.alloc (.cells #[.int .i64 R, .int .i64 C, .slice (some ⟨b, o, none⟩) n cap] 36)).alloc (.cells #[.int .i64 0, .int .i64 0, .int .i64 0, .bool false] 40) := ⟨_, rfl⟩
  have b0 : Bl w W := by rw [hW]; exact ((Bl.refl _).alloc _).alloc _
  have m0 : MBox W w.heap.size R C (some ⟨b, o, none⟩) n cap := by rw [hW]; exact (MBox.new w _ _ _ _ _ _).later ((Bl.refl _).alloc _)
  have x0 : Box W (w.heap.size + 1) zeroE := by rw [hW]; have := Box.new (w.alloc (.cells #[.int .i64 R, .int .i64 C, .slice (some ⟨b, o, none⟩) n cap] 36)) zeroE 40; rw [World.size_alloc] at this; exact this
  have HW := hideP hW
  clear hW
  go_enter Tryz.func38, Tryz.ntmps38
  go_wp2_with fail
  rw [← HW.out]
  refine (mRightN _ _ _ _ _ _).mono ?_
  rintro e w1 ⟨rfl, h1⟩
  rw [hfit]
  obtain ⟨c0, c1, c2, f0, f1, f2, lt⟩ := m0.later h1
  go_wp2_with fail
  refine (among_any _ _ _).mono ?_
  rintro e w2 ⟨rfl, rfl⟩
  rw [ha1]
  go_wp2_with fail
  refine (among_any _ _ _).mono ?_
  rintro e w3 ⟨rfl, rfl⟩
  rw [ha2]
  have z0 := y0 _ (b0.trans h1)
  have z1 := y1 _ (b0.trans h1)
  have z2 := y2 _ (b0.trans h1)
  have z3 := y3 _ (b0.trans h1)
  obtain ⟨d0, d1, d2, d3, g0, g1, g2, g3, lt2⟩ := x0.later h1
  clear y0 y1 y2 y3
  go_wp2
  simp [bodyPost, results, Tryz.results38, go_sem, d0, d1, d2, d3]
  exact Bl.set4 (b0.trans h1) (Nat.le_succ _) _ _ _ _
theorem mAtN_no (R C : Nat) (p : Option Addr) (n cap : Nat) (w : World) (hfit : fitB R C n = true) (i k : Int) (h : ¬ ((0 ≤ i ∧ i < R) ∧ (0 ≤ k ∧ k < C))) :
    Calls Tryz.prog 38 #[mV R C p n cap, .int .i64 i, .int .i64 k] w fun e w' => e = .returned (enV zeroE) ∧ Bl w w' := by
  obtain ⟨W, hW⟩ : ∃ W, W = (w.alloc (.cells #[.int .i64 R, .int .i64 C, .slice p n cap] 36)).alloc (.cells #[.int .i64 0, .int .i64 0, .int .i64 0, .bool false] 40) := ⟨_, rfl⟩
  have b0 : Bl w W := by rw [hW]; exact ((Bl.refl _).alloc _).alloc _
  have m0 : MBox W w.heap.size R C p n cap := by rw [hW]; exact (MBox.new w _ _ _ _ _ _).later ((Bl.refl _).alloc _)
  have x0 : Box W (w.heap.size + 1) zeroE := by rw [hW]; have := Box.new (w.alloc (.cells #[.int .i64 R, .int .i64 C, .slice p n cap] 36)) zeroE 40; rw [World.size_alloc] at this; exact this
  have HW := hideP hW
  clear hW
  by_cases hi : 0 ≤ i ∧ i < R
  · have ha1 : amongB i R = true := decide_eq_true hi
    have ha2 : amongB k C = false := amongB_f (fun hk => h ⟨hi, hk⟩)
    go_enter Tryz.func38, Tryz.ntmps38
    go_wp2_with fail
    rw [← HW.out]
    refine (mRightN _ _ _ _ _ _).mono ?_
    rintro e w1 ⟨rfl, h1⟩
    rw [hfit]
    obtain ⟨c0, c1, c2, f0, f1, f2, lt⟩ := m0.later h1
    go_wp2_with fail
    refine (among_any _ _ _).mono ?_
    rintro e w2 ⟨rfl, rfl⟩
    rw [ha1]
    go_wp2_with fail
    refine (among_any _ _ _).mono ?_
    rintro e w3 ⟨rfl, rfl⟩
    rw [ha2]
    obtain ⟨d0, d1, d2, d3, g0, g1, g2, g3, lt2⟩ := x0.later (h1.trans ((Bl.refl _).alloc (.cells #[.int .i64 0, .int .i64 0, .int .i64 0, .bool false] 40)))
    go_wp2
    simp [bodyPost, results, Tryz.results38, go_sem, d0, d1, d2, d3]
    exact ⟨by decide, Bl.set4 ((b0.trans h1).alloc _) (Nat.le_succ _) _ _ _ _⟩
  · have ha1 : amongB i R = false := amongB_f hi
    go_enter Tryz.func38, Tryz.ntmps38
    go_wp2_with fail
    rw [← HW.out]
    refine (mRightN _ _ _ _ _ _).mono ?_
    rintro e w1 ⟨rfl, h1⟩
    rw [hfit]
    obtain ⟨c0, c1, c2, f0, f1, f2, lt⟩ := m0.later h1
    go_wp2_with fail
    refine (among_any _ _ _).mono ?_
    rintro e w2 ⟨rfl, rfl⟩
    rw [ha1]
    obtain ⟨d0, d1, d2, d3, g0, g1, g2, g3, lt2⟩ := x0.later (h1.trans ((Bl.refl _).alloc (.cells #[.int .i64 0, .int .i64 0, .int .i64 0, .bool false] 40)))
    go_wp2
    simp [bodyPost, results, Tryz.results38, go_sem, d0, d1, d2, d3]
    exact ⟨by decide, Bl.set4 ((b0.trans h1).alloc _) (Nat.le_succ _) _ _ _ _⟩
/-- A part of a row, as the program takes it. -/
theorem Tryz.partN (b o n cap lo hi : Nat) (w : World) (h1 : lo ≤ hi) (h2 : hi ≤ n) (h3 : n ≤ cap) (h4 : lo < cap) : (Instr.sliceAt 34 (.slice (some ⟨b, o, none⟩) n cap) (some (.int .i64 lo)) (some (.int .i64 hi)) none).run Tryz.prog w = .ok (.slice (some ⟨b, o + lo * 4, none⟩) (hi - lo) (cap - lo)) w := by
  have hu : Tryz.prog.underlying 34 = some (.slice (Tryz.prog.elem 34)) := by kernel_rfl
  obtain ⟨i0, hi0, hz0, hz1, hz2⟩ := info_parts Tryz.info_N
  have he : Tryz.prog.elem 34 = 40 := by kernel_rfl
  rw [run_sliceAt_slice (h := hu), run_slice_lh (ht := hu) (h0 := by omega) (h1 := by omega) (h2 := by omega), he]
  have hcm : ¬ cap = lo := by omega
  have hcm' : ¬ cap ≤ lo := by omega
  simp [sizeOf, typeInfo, hi0, sliced, Result.andThen, hz1, hcm, hcm', Addr.add]
theorem mRowN (R C : Nat) (p : Option Addr) (n cap : Nat) (f : Nat → Nat → En) (w : World) (h : Mx 4 cellsN w R C p n cap f) (i : Nat) (hi : i < R) :
    Calls Tryz.prog 40 #[mV R C p n cap, .int .i64 i] w fun e w' => ∃ p' cap', e = .returned (.slice p' C cap') ∧ (Rw 4 cellsN w' (.slice p' C cap') (rowM C f i) ∧ Fresh w.heap.size (.slice p' C cap') ∧ C ≤ cap') ∧ Bl w w' := by
  have hfit := h.fit
  obtain ⟨b, o, rfl, hc, hb, -⟩ := h.cells
  obtain ⟨hd, hn, hR⟩ := h
  have ha1 := amongB_t hi
  have h16 := hd.lt
  have hi16 : i < 16 := Nat.lt_of_lt_of_le hi hd.r2
  have hC16 := hd.c2
  have hC1 := hd.c1
  obtain ⟨a, e, e1, e2, hq1, hq3, hq5, hq6, hq7⟩ := places hd hi
  have hpt : Rq 4 cellsN w (.slice (some ⟨b, o + a * 4, none⟩) C (cap - a)) (rowM C f i) := by
    have := hR.part (lo := a) (m := C) (by rw [mk_len, hn]) (by omega) (by omega) (cap - a) (by omega)
    rw [e1, mk_row f hi] at this
    rw [e1]
    exact this
  have sl := fun u => Tryz.partN b o n cap a e u (by omega) (by omega) hc (by omega)
  rw [show e - a = C by omega] at sl
  have HP := hideP hpt
  rw [← hn] at h16 hq5
  clear hR hpt e1 e2 hn
  obtain ⟨W, hW⟩ : ∃ W, W = (w.alloc (.cells #[.int .i64 R, .int .i64 C, .slice (some ⟨b, o, none⟩) n cap] 36)) := ⟨_, rfl⟩
  have b0 : Bl w W := by rw [hW]; exact (Bl.refl _).alloc _
  have m0 : MBox W w.heap.size R C (some ⟨b, o, none⟩) n cap := by rw [hW]; exact MBox.new w _ _ _ _ _ _
  have HW := hideP hW
  clear hW
  go_enter Tryz.func40, Tryz.ntmps40
  go_wp2_with fail
  rw [← HW.out]
  refine (mRightN _ _ _ _ _ _).mono ?_
  rintro e w1 ⟨rfl, h1⟩
  rw [hfit]
  obtain ⟨c0, c1, c2, f0, f1, f2, lt⟩ := m0.later h1
  go_wp2_with fail
  refine (among_any _ _ _).mono ?_
  rintro e w2 ⟨rfl, rfl⟩
  rw [ha1]
  go_wp2_with fail
  refine (vCloneN _ (rowM C f i) _ (HP.out.later (b0.trans h1)) (by rw [rowM_len]; omega)).mono ?_
  rintro e w3 ⟨u, rfl, hR, hF, h3⟩
  obtain ⟨p', cap', rfl, hcl, _⟩ := hR.cut
  rw [rowM_len] at hR hF hcl ⊢
  have HR := hideP hR
  have HF := hideP hF
  clear hR hF
  go_wp2
  go_ret
  exact ⟨p', cap', rfl, ⟨HR.out, fun g hg => by have := HF.out g hg; have := (b0.trans h1).size; omega, hcl⟩, (b0.trans h1).trans h3⟩
theorem mRowN_no (R C : Nat) (p : Option Addr) (n cap : Nat) (w : World) (hfit : fitB R C n = true) (i : Int) (h : ¬ (0 ≤ i ∧ i < R)) :
    Calls Tryz.prog 40 #[mV R C p n cap, .int .i64 i] w fun e w' => e = .returned (.slice none 0 0) ∧ Bl w w' := by
  have ha1 : amongB i R = false := amongB_f h
  obtain ⟨W, hW⟩ : ∃ W, W = (w.alloc (.cells #[.int .i64 R, .int .i64 C, .slice p n cap] 36)) := ⟨_, rfl⟩
  have b0 : Bl w W := by rw [hW]; exact (Bl.refl _).alloc _
  have m0 : MBox W w.heap.size R C p n cap := by rw [hW]; exact MBox.new w _ _ _ _ _ _
  have HW := hideP hW
  clear hW
  go_enter Tryz.func40, Tryz.ntmps40
  go_wp2_with fail
  rw [← HW.out]
  refine (mRightN _ _ _ _ _ _).mono ?_
  rintro e w1 ⟨rfl, h1⟩
  rw [hfit]
  obtain ⟨c0, c1, c2, f0, f1, f2, lt⟩ := m0.later h1
  go_wp2_with fail
  refine (among_any _ _ _).mono ?_
  rintro e w2 ⟨rfl, rfl⟩
  rw [ha1]
  go_wp2
  go_ret
  exact ⟨rfl, b0.trans h1⟩
end Go.Proofs.YtbfdkahbnfpabaaGreat

/- Contracts of tri's square, triangle, and of Whole's own memory, of enclosed numbers (layer 7). Written by genTr.py. -/
namespace Go.Proofs.YtbfdkahbnfpabaaGreat
open Go.RowKit
set_option linter.unusedSimpArgs false
set_option linter.unusedVariables false

theorem tSquareN (r c : Int) (p : Option Addr) (n cap : Nat) (w : World) :
    Calls Tryz.prog 35 #[mV r c p n cap] w fun e w' => e = .returned (.bool (sqB r c n)) ∧ Bl w w' := by
  obtain ⟨W, hW⟩ : ∃ W, W = w.alloc (.cells #[.int .i64 r, .int .i64 c, .slice p n cap] 36) := ⟨_, rfl⟩
  have b0 : Bl w W := by rw [hW]; exact (Bl.refl _).alloc _
  have m0 : MBox W w.heap.size r c p n cap := by rw [hW]; exact MBox.new w _ _ _ _ _ _
  have HW := hideP hW
  clear hW
  have hd : sqB r c n = (fitB r c n && (r == c)) := by unfold sqB; congr 1
  rw [hd]
  clear hd
  cases hf : fitB r c n
  · go_enter Tryz.func35, Tryz.ntmps35
    go_wp2_with fail
    rw [← HW.out]
    refine (mRightN _ _ _ _ _ _).mono ?_
    rintro e w1 ⟨rfl, h1⟩
    rw [hf]
    obtain ⟨c0, c1, c2, f0, f1, f2, lt⟩ := m0.later h1
    go_wp2
    go_ret
    exact ⟨rfl, b0.trans h1⟩
  · go_enter Tryz.func35, Tryz.ntmps35
    go_wp2_with fail
    rw [← HW.out]
    refine (mRightN _ _ _ _ _ _).mono ?_
    rintro e w1 ⟨rfl, h1⟩
    rw [hf]
    obtain ⟨c0, c1, c2, f0, f1, f2, lt⟩ := m0.later h1
    go_wp2
    go_ret
    exact ⟨by rw [Bool.true_and]; rfl, b0.trans h1⟩
set_option maxHeartbeats 1000000 in
/-- vec.Whole's memory is its own. -/
theorem vWholeON (p : Option Addr) (n cap : Nat) (ns : List Int) (w : World) (h : Rq 1 (fun n => [.int .i64 n]) w (.slice p n cap) ns) (hn : ns.length = n) (h0 : 0 < n) (hl : n ≤ 1000000) :
    Calls Tryz.prog 21 #[.slice p n cap] w fun e w' => ∃ u, e = .returned u ∧ w'.ownsRow w.heap.size 40 4 u n ((ns.map wholeN).flatMap cellsN) ∧ Bl w w' := by
  obtain ⟨i0, hi, hz0, hz1, hz2⟩ := info_parts Tryz.info_N
  subst hn
  rcases h with ⟨p', cap', he, rfl, hpn⟩ | ⟨b, o, cap', he, hc, hb, hx⟩
  · simp at h0
  · cases he
    have HX := hideP hx
    clear hx
    go_enter Tryz.func21, Tryz.ntmps21
    go_wp2_with (at_make; refine wpList_make_own _ rfl _ _ 34 rfl w.heap.size 40 i0 (.agg #[.int .i64 0, .int .i64 0, .int .i64 0, .bool false]) 4 Tryz.underlying34 hi hz0 hz1 .i64 .i64 _ ns.length rfl rfl (by simp) (by rw [hz2]; omega) (by unfold maxLen; omega) (Nat.le_refl _) ?_; intro w0 hown0 hgrow0)
    have hB0 : Bl w w0 := (Bl.refl w).grown hgrow0 (by omega) (fun k e => by cases e)
    go_loopw [3, 11] (fun v i wr => ∃ k : Nat, i = .int .i64 k ∧ k ≤ ns.length ∧ wr.ownsRow w.heap.size 40 4 v ((ns.take k).map wholeN).length (((ns.take k).map wholeN).flatMap cellsN) ∧ Bl w wr) (fun _ i _ => ns.length - (intOf i).toNat)
    case atStart => exact ⟨0, rfl, Nat.zero_le _, hown0, hB0⟩
    case round =>
      obtain ⟨k, rfl, hk, hown, hB⟩ := hrel
      by_cases hlt : k < ns.length
      · obtain ⟨x, hx⟩ : ∃ x, ns[k]? = some x := ⟨_, List.getElem?_eq_getElem hlt⟩
        have y0 : wr.cell? ⟨b, o + k, none⟩ = some (.int .i64 x) := by
          have := (bl_cell hB _ _ hb).trans (HX.out k x hx 0 _ rfl)
          simpa using this
        have hT : (ns.take (k + 1)).map wholeN = (ns.take k).map wholeN ++ [wholeN x] := by rw [List.take_add_one, hx]; simp
        have hkl : ((ns.take k).map wholeN).length = k := by simp; omega
        have HK := hideP hkl
        clear hkl
        have HT := hideP hT
        clear hT
        generalize hys : (ns.take k).map wholeN = ys at *
        clear hys
        go_wp2_with fail
        refine (vwholeN x _).mono ?_
        rintro e w2 ⟨rfl, h2⟩
        have hr : wholeN x = (ptE (foN x) (foB x)) := rfl
        generalize (ptE (foN x) (foB x)) = r at *
        rw [hr] at HT
        clear hr y0
        replace hown := own_blN hown h2
        replace hB := hB.trans h2
        have hkk := HK.out
        go_wp2_with (at_builtin; refine wpList_append_own _ rfl _ _ 34 rfl w.heap.size 40 i0 (.agg #[.int .i64 0, .int .i64 0, .int .i64 0, .bool false]) 4 32 Tryz.underlying34 hi hz0 hz1 hz2 rfl (by decide) _ _ _ rfl (hown.alloc _) ⟨_, 0, none⟩ 1 1 (cellsN r) rfl rfl (newN_cells _ _ _) (oneN_cells _) (by unfold maxLen; omega) (by omega) (by have := hB.size; simp; omega) ?_; intro v' w1 hown' hgrow _)
        have R := ownN_step hB hown hown' hgrow
        clear hown hown' hgrow
        go_wp2
        go_roundw
        case rel => exact ⟨k + 1, by simp, hlt, by rw [HT.out]; exact R.2, R.1⟩
        case measure => simp [intOf]; omega
      · have hk' : k = ns.length := by omega
        subst hk'
        rw [List.take_length, List.length_map] at hown
        have R := hideP hown
        clear hown
        go_wp2
        go_ret
        exact ⟨_, rfl, R.out, hB⟩
/-- mat.Whole's memory is its own. -/
theorem mWholeON (r c : Int) (p : Option Addr) (n cap : Nat) (ns : List Int) (w : World) (hr : Rq 1 (fun n => [.int .i64 n]) w (.slice p n cap) ns) (h : fitB r c n = true) (hn : ns.length = n) :
    Calls Tryz.prog 11 #[.int .i64 r, .int .i64 c, .slice p n cap] w fun e w' => ∃ g cap', e = .returned (.tuple #[mV r c (some ⟨g, 0, none⟩) n cap', .bool true]) ∧ w'.ownsRow (w.heap.size + 1) 40 4 (.slice (some ⟨g, 0, none⟩) n cap') n ((ns.map wholeN).flatMap cellsN) ∧ Bl w w' := by
  have hl : n ≤ 1000000 ∧ 0 < n := by obtain ⟨R, C, _, _, hd, rfl⟩ := fitB_nat h; have := hd.lt; exact ⟨by omega, Nat.mul_pos hd.r1 hd.c1⟩
  obtain ⟨W, hW⟩ : ∃ W, W = w.alloc (.cells #[.int .i64 0, .int .i64 0, .slice none 0 0] 36) := ⟨_, rfl⟩
  have b0 : Bl w W := by rw [hW]; exact (Bl.refl _).alloc _
  have x0 : MBox W w.heap.size 0 0 none 0 0 := by rw [hW]; exact MBox.new w 0 0 none 0 0 _
  have hsz : W.heap.size = w.heap.size + 1 := by rw [hW]; simp
  have CL := hideP (vWholeON p n cap ns W (hr.later b0) hn hl.2 hl.1)
  rw [hsz] at CL
  have HW := hideP hW
  clear hW hr
  go_enter Tryz.func11, Tryz.ntmps11
  go_wp2_with fail
  rw [← HW.out]
  refine (fits_any _ _ _ _).mono ?_
  rintro e w1 ⟨rfl, rfl⟩
  rw [h]
  go_wp2_with fail
  refine CL.out.mono ?_
  rintro e w2 ⟨u, rfl, hR, h2⟩
  obtain ⟨g, cap', hu⟩ : ∃ g cap', u = .slice (some ⟨g, 0, none⟩) n cap' := by
    rcases hR.2 with ⟨rfl, e⟩ | ⟨g, cap', cur, rfl, _⟩
    · have := hl.2; omega
    · exact ⟨g, cap', rfl⟩
  subst hu
  have HR := hideP hR
  obtain ⟨c0, c1, c2, f0, f1, f2, lt⟩ := x0.later h2
  clear hR CL
  go_wp2
  simp [bodyPost, results, Tryz.results11, go_sem, c0, c1, c2]
  refine ⟨g, cap', ⟨rfl, rfl⟩, ?_, Bl.put3 (b0.trans h2) (Nat.le_refl _) _ _ _⟩
  exact ownsRow_setCell_below (ownsRow_setCell_below (ownsRow_setCell_below HR.out (a := ⟨w.heap.size, 0, none⟩) (Nat.lt_succ_self _) _) (a := ⟨w.heap.size, 1, none⟩) (Nat.lt_succ_self _) _) (a := ⟨w.heap.size, 2, none⟩) (Nat.lt_succ_self _) _
/-- One number of a row that is owned, set anew. -/
theorem own_putN {w : World} {base g m cap : Nat} {xs : List En} (h : w.ownsRow base 40 4 (.slice (some ⟨g, 0, none⟩) m cap) m (xs.flatMap cellsN)) {q : Nat} (hq : q < xs.length) (x : En) :
    ((((w.setCell ⟨g, q * 4, none⟩ (.int .i64 x.v)).setCell ⟨g, q * 4 + 1, none⟩ (.int .i64 x.l)).setCell ⟨g, q * 4 + 2, none⟩ (.int .i64 x.h)).setCell ⟨g, q * 4 + 3, none⟩ (.bool x.bad)).ownsRow base 40 4 (.slice (some ⟨g, 0, none⟩) m cap) m ((xs.set q x).flatMap cellsN) := by
  have e := flat_set cellsN_len xs q x hq
  rw [← e]
  have o0 := h
  obtain ⟨o1, g1⟩ := o0.stored (q * 4) (.int .i64 x.v)
  obtain ⟨o2, g2⟩ := o1.stored (q * 4 + 1) (.int .i64 x.l)
  obtain ⟨o3, g3⟩ := o2.stored (q * 4 + 2) (.int .i64 x.h)
  obtain ⟨o4, g4⟩ := o3.stored (q * 4 + 3) (.bool x.bad)
  exact o4

set_option maxRecDepth 100000 in
set_option maxHeartbeats 2000000 in
theorem tTriangleN (G pb : Nat) (eg : ∀ (args : Array Value) (w : World), (callFunc G args).run Tryz.prog w = .ok (.enter G args) w) (val : (Nat → Nat → En) → Nat → Nat → En) (n N : Nat) (h1 : 1 ≤ n) (h2 : n ≤ 16) (hN : N = n * n) (w : World)
    (hG : ∀ (f : Nat → Nat → En) (p : Option Addr) (cap i k : Nat) (u : World), k ≤ i → i < n → Bl w u → Mx 4 cellsN u n n p N cap f → Calls Tryz.prog G #[mV n n p N cap, .int .i64 i, .int .i64 k, .pointer (some ⟨pb, 0, none⟩)] u fun e w' => e = .returned (enV (val f i k)) ∧ Bl u w') :
    Calls Tryz.prog 36 #[.int .i64 n, .func (.func G) #[] #[.pointer (some ⟨pb, 0, none⟩)]] w fun e w' => ∃ p' cap', e = .returned (mV n n p' N cap') ∧ (Mx 4 cellsN w' n n p' N cap' (triT val (wholeN 0) n n) ∧ Fresh w.heap.size (.slice p' N cap')) ∧ Bl w w' := by
  obtain ⟨i0, hi, hz0, hz1, hz2⟩ := info_parts Tryz.info_I
  have fm : Tryz.prog.follows .mixedOrders = true := by kernel_rfl
  have hd : Dim n n := ⟨h1, h2, h1, h2⟩
  have hnn : (n : Int) * (n : Int) = N := by rw [hN]; simp
  have hN256 : N ≤ 256 := by rw [hN]; exact hd.lt
  have hfit := hideP (fitB_dim hd hN)
  have HN := hideP hN
  have HG := hideP hG
  clear hN hG
  have z0 := MBox.new w 0 0 none 0 0 36
  go_enter Tryz.func36, Tryz.ntmps36
  go_wp2_with (at_make; refine wpList_make_full _ rfl _ _ 22 rfl (w.heap.size + 1) 3 i0 (.int .i64 0) 1 Tryz.underlying22 hi hz0 hz1 .i64 .i64 _ _ N rfl rfl (by simp) (by simp) (by rw [hz2]; omega) (by unfold maxLen; omega) (by simp) ?_; intro w0 hown0 hgrow0)
  rw [zeros_made] at hown0
  have hB0 : Bl w w0 := ((Bl.refl w).alloc _).grown hgrow0 (by simp) (fun k e => by cases e)
  have hz : MBox w0 w.heap.size 0 0 none 0 0 := mbox_block z0 (hgrow0.block _ z0.lt nofun) hgrow0.size
  have hs0 : w.heap.size + 1 ≤ w0.heap.size := by have := hz.lt; omega
  clear hgrow0 z0
  try simp only [World.size_alloc] at hown0 ⊢
  have hr : Rq 1 (fun n => [.int .i64 n]) w0 (.slice (some ⟨w.heap.size + 1, 0, none⟩) N N) (List.replicate N (0 : Int)) := (Rw.of_own cellsI_len (xs := List.replicate N (0 : Int)) (by rw [List.length_replicate]; exact hown0)).q
  have WH := hideP (mWholeON n n _ N N _ w0 hr hfit.out (by simp))
  clear hr hown0
  refine WH.out.mono ?_
  rintro e w2 ⟨g, cap, rfl, hown, h2'⟩
  rw [HN.out, zeros_map, ← HN.out] at hown
  have hg := hown.lt g rfl
  have hB2 : Bl w w2 := hB0.trans h2'
  have hz2 := hz.later h2'
  clear WH hz hB0
  obtain ⟨W, hW⟩ : ∃ W, W = w2.alloc (.cells #[.int .i64 n, .int .i64 n, .slice (some ⟨g, 0, none⟩) N cap] 36) := ⟨_, rfl⟩
  have bt : MBox W w2.heap.size n n (some ⟨g, 0, none⟩) N cap := by rw [hW]; exact MBox.new w2 _ _ _ _ _ _
  have bW : Bl w W := by rw [hW]; exact hB2.alloc _
  have hzW : MBox W w.heap.size 0 0 none 0 0 := by rw [hW]; exact hz2.later ((Bl.refl _).alloc _)
  have hoW : W.ownsRow (w.heap.size + 1) 40 4 (.slice (some ⟨g, 0, none⟩) N cap) N ((mk n n (triT val (wholeN 0) n 0)).flatMap cellsN) := by
    rw [hW]
    exact (own_base hown (by omega)).alloc _
  have hgt : w.heap.size + 1 ≤ g ∧ g < w2.heap.size := ⟨by have := hg.1; omega, hg.2⟩
  have HW := hideP hW
  clear hW hown hg hz2 h2'
  go_wp2_with fail
  rw [← HW.out]
  go_loopw [20] (fun i wr => ∃ k : Nat, i = .int .i64 k ∧ k ≤ n ∧ wr.ownsRow (w.heap.size + 1) 40 4 (.slice (some ⟨g, 0, none⟩) N cap) N ((mk n n (triT val (wholeN 0) n k)).flatMap cellsN) ∧ MBox wr w2.heap.size n n (some ⟨g, 0, none⟩) N cap ∧ MBox wr w.heap.size 0 0 none 0 0 ∧ Bl w wr) (fun i _ => n - (intOf i).toNat)
  case atStart => exact ⟨0, rfl, Nat.zero_le _, hoW, bt, hzW, bW⟩
  case round =>
    clear hoW bt hzW bW
    obtain ⟨k, rfl, hk, hown, ht, hz, hB⟩ := hrel
    by_cases hlt : k < n
    · go_wp2_with fail
      go_loopw [8] (fun i wr => ∃ m : Nat, i = .int .i64 (((k + m : Nat)) : Int) ∧ k + m ≤ n ∧ wr.ownsRow (w.heap.size + 1) 40 4 (.slice (some ⟨g, 0, none⟩) N cap) N ((mk n n (colT val k (triT val (wholeN 0) n k) m)).flatMap cellsN) ∧ MBox wr w2.heap.size n n (some ⟨g, 0, none⟩) N cap ∧ MBox wr w.heap.size 0 0 none 0 0 ∧ Bl w wr) (fun i _ => n - (intOf i).toNat)
      case atStart => exact ⟨0, rfl, by omega, hown, ht, hz, hB⟩
      case round =>
        clear hown ht hz hB
        obtain ⟨m, rfl, hm, hown, ht, hz, hB⟩ := hrel
        obtain ⟨i, hi'⟩ : ∃ i, i = k + m := ⟨_, rfl⟩
        rw [← hi'] at hm ⊢
        by_cases hlt2 : i < n
        · have HT := hideP (show colT val k (triT val (wholeN 0) n k) (m + 1) = putM (colT val k (triT val (wholeN 0) n k) m) i k (val (colT val k (triT val (wholeN 0) n k) m) i k) by rw [hi']; rfl)
          have hki : k ≤ i := by omega
          have HI := hideP hi'
          clear hi'
          generalize colT val k (triT val (wholeN 0) n k) m = f at *
          obtain ⟨a, q, e1, e2, hq1, hq3, hq5, hq6⟩ := place hd hlt2 hlt
          rw [← HN.out] at hq5
          have HP := hideP e2
          clear e1 e2
          have MX : ∀ u, Bl wr u → Mx 4 cellsN u n n (some ⟨g, 0, none⟩) N cap f := fun u hu => ⟨hd, HN.out, (Rw.of_own cellsN_len (xs := mk n n f) (by rw [mk_len, ← HN.out]; exact own_blN hown hu)).q⟩
          have CL := hideP (fun u (hu : Bl wr u) => HG.out f (some ⟨g, 0, none⟩) cap i k u hki hlt2 (hB.trans hu) (MX u hu))
          have OW := hideP hown
          have CX : ∀ j u, (cellsN (f i k))[j]? = some u → wr.cell? ⟨g, q * 4 + j, none⟩ = some u := fun j u hu => by
            have := (MX wr (Bl.refl _)).cells
            obtain ⟨b, o, e, _, _, hc⟩ := this
            cases e
            have := hc i k hlt2 hlt j u hu
            rw [← HP.out] at this
            simpa using this
          have FZ : ∀ j, wr.frozen? ⟨g, j, none⟩ = false := fun j => hown.frozenAt j
          have hgl : g < wr.heap.size := (hown.lt g rfl).2
          have WA : IntKind.i64.wrap (a : Int) = a := wrapS7 (by omega) (by omega)
          have WQ : IntKind.i64.wrap (q : Int) = q := wrapS7 (by omega) (by omega)
          clear hown MX
          generalize f i k = y at *
          generalize val f i k = x at *
          go_wp2_with fail
          refine (wpIn_wide (n := 8)).1 (region_q fm [some 29, some 30, some 31, some 32, some 33, some 34, some 35, some 36, some 37, some 38, some 39, some 40, some 41, none] (fun _ => false) 13 (by kernel_rfl) (by rfl)
            (fun j v u => match j with | 0 => v = .pointer (some ⟨w2.heap.size, 2, none⟩) | 1 => v = .slice (some ⟨g, 0, none⟩) N cap | 2 => v = .int .i64 i | 3 => v = .int .i64 n | 4 => v = .int .i64 a | 5 => v = .int .i64 k | 6 => v = .int .i64 q | 7 => v = .func (.func G) #[] #[.pointer (some ⟨pb, 0, none⟩)] | 8 => v = mV n n (some ⟨g, 0, none⟩) N cap | 9 => v = .int .i64 i | 10 => v = .int .i64 k | 11 => v = enV x | 12 => v = .pointer (some ⟨g, q * 4, none⟩) | _ => False)
            (fun j v u u' _ h => h) (fun vs u0 u => u = (((u0.setCell ⟨g, q * 4, none⟩ (.int .i64 x.v)).setCell ⟨g, q * 4 + 1, none⟩ (.int .i64 x.l)).setCell ⟨g, q * 4 + 2, none⟩ (.int .i64 x.h)).setCell ⟨g, q * 4 + 3, none⟩ (.bool x.bad)) ?step ?still ?store ?fin)
          case step =>
            intro j o t act u ho hdt hpu hsz hu hfr hin
            have hj : j < 14 := (Array.getElem?_eq_some_iff.1 ho).1
            obtain ⟨c0, c1, c2, f0, f1, f2, lt⟩ := ht.later hu
            rcases (by omega : j = 0 ∨ j = 1 ∨ j = 2 ∨ j = 3 ∨ j = 4 ∨ j = 5 ∨ j = 6 ∨ j = 7 ∨ j = 8 ∨ j = 9 ∨ j = 10 ∨ j = 11 ∨ j = 12 ∨ j = 13) with rfl | rfl | rfl | rfl | rfl | rfl | rfl | rfl | rfl | rfl | rfl | rfl | rfl | rfl
            · simp only [List.getElem?_toArray, List.getElem?_cons_zero, List.getElem?_cons_succ, Option.some.injEq] at ho
              subst ho
              obtain rfl := Option.some.inj hdt
              have i5 : act.eval (.tmp (5 : Nat)) = .pointer (some ⟨w2.heap.size, 0, none⟩) := hfr 5 (by decide)
              exact plain_wp (by intro c h; cases h) (fun _ _ => trivial) (by simp only [execOp, i5, evalC, evalF, evalG]; simp [go_sem, c0, c1, c2, hq1, hq3, hq5, WA, WQ]) ⟨_, rfl, rfl, Bl.refl _⟩
            · simp only [List.getElem?_toArray, List.getElem?_cons_zero, List.getElem?_cons_succ, Option.some.injEq] at ho
              subst ho
              obtain rfl := Option.some.inj hdt
              have i29 : (act.eval (.tmp (29 : Nat))) = .pointer (some ⟨w2.heap.size, 2, none⟩) := hin ⟨0, .data⟩ (by simp) rfl 29 rfl
              exact plain_wp (by intro c h; cases h) (fun _ _ => trivial) (by simp only [execOp, i29, evalC, evalF, evalG]; simp [go_sem, c0, c1, c2, hq1, hq3, hq5, WA, WQ]) ⟨_, rfl, rfl, Bl.refl _⟩
            · simp only [List.getElem?_toArray, List.getElem?_cons_zero, List.getElem?_cons_succ, Option.some.injEq] at ho
              subst ho
              obtain rfl := Option.some.inj hdt
              have i8 : act.eval (.tmp (8 : Nat)) = .int .i64 i := hfr 8 (by decide)
              exact plain_wp (by intro c h; cases h) (fun _ _ => trivial) (by simp only [execOp, i8, evalC, evalF, evalG]; simp [go_sem]) ⟨_, rfl, rfl, Bl.refl _⟩
            · simp only [List.getElem?_toArray, List.getElem?_cons_zero, List.getElem?_cons_succ, Option.some.injEq] at ho
              subst ho
              obtain rfl := Option.some.inj hdt
              have i0 : act.eval (.tmp (0 : Nat)) = .int .i64 n := hfr 0 (by decide)
              exact plain_wp (by intro c h; cases h) (fun _ _ => trivial) (by simp only [execOp, i0, evalC, evalF, evalG]; simp [go_sem]) ⟨_, rfl, rfl, Bl.refl _⟩
            · simp only [List.getElem?_toArray, List.getElem?_cons_zero, List.getElem?_cons_succ, Option.some.injEq] at ho
              subst ho
              obtain rfl := Option.some.inj hdt
              have i31 : (act.eval (.tmp (31 : Nat))) = .int .i64 i := hin ⟨2, .data⟩ (by simp) rfl 31 rfl
              have i32 : (act.eval (.tmp (32 : Nat))) = .int .i64 n := hin ⟨3, .data⟩ (by simp) rfl 32 rfl
              exact plain_wp (by intro c h; cases h) (fun _ _ => trivial) (by simp only [execOp, i31, i32, evalC, evalF, evalG]; simp [go_sem, c0, c1, c2, hq1, hq3, hq5, WA, WQ]) ⟨_, rfl, rfl, Bl.refl _⟩
            · simp only [List.getElem?_toArray, List.getElem?_cons_zero, List.getElem?_cons_succ, Option.some.injEq] at ho
              subst ho
              obtain rfl := Option.some.inj hdt
              have i7 : act.eval (.tmp (7 : Nat)) = .int .i64 k := hfr 7 (by decide)
              exact plain_wp (by intro c h; cases h) (fun _ _ => trivial) (by simp only [execOp, i7, evalC, evalF, evalG]; simp [go_sem]) ⟨_, rfl, rfl, Bl.refl _⟩
            · simp only [List.getElem?_toArray, List.getElem?_cons_zero, List.getElem?_cons_succ, Option.some.injEq] at ho
              subst ho
              obtain rfl := Option.some.inj hdt
              have i33 : (act.eval (.tmp (33 : Nat))) = .int .i64 a := hin ⟨4, .data⟩ (by simp) rfl 33 rfl
              have i34 : (act.eval (.tmp (34 : Nat))) = .int .i64 k := hin ⟨5, .data⟩ (by simp) rfl 34 rfl
              exact plain_wp (by intro c h; cases h) (fun _ _ => trivial) (by simp only [execOp, i33, i34, evalC, evalF, evalG]; simp [go_sem, c0, c1, c2, hq1, hq3, hq5, WA, WQ]) ⟨_, rfl, rfl, Bl.refl _⟩
            · simp only [List.getElem?_toArray, List.getElem?_cons_zero, List.getElem?_cons_succ, Option.some.injEq] at ho
              subst ho
              obtain rfl := Option.some.inj hdt
              have i1 : act.eval (.tmp (1 : Nat)) = .func (.func G) #[] #[.pointer (some ⟨pb, 0, none⟩)] := hfr 1 (by decide)
              exact plain_wp (by intro c h; cases h) (fun _ _ => trivial) (by simp only [execOp, i1, evalC, evalF, evalG]; simp [go_sem]) ⟨_, rfl, rfl, Bl.refl _⟩
            · simp only [List.getElem?_toArray, List.getElem?_cons_zero, List.getElem?_cons_succ, Option.some.injEq] at ho
              subst ho
              obtain rfl := Option.some.inj hdt
              have i5 : act.eval (.tmp (5 : Nat)) = .pointer (some ⟨w2.heap.size, 0, none⟩) := hfr 5 (by decide)
              exact plain_wp (by intro c h; cases h) (fun _ _ => trivial) (by simp only [execOp, i5, evalC, evalF, evalG]; simp [go_sem, c0, c1, c2, hq1, hq3, hq5, WA, WQ]) ⟨_, rfl, rfl, Bl.refl _⟩
            · simp only [List.getElem?_toArray, List.getElem?_cons_zero, List.getElem?_cons_succ, Option.some.injEq] at ho
              subst ho
              obtain rfl := Option.some.inj hdt
              have i8 : act.eval (.tmp (8 : Nat)) = .int .i64 i := hfr 8 (by decide)
              exact plain_wp (by intro c h; cases h) (fun _ _ => trivial) (by simp only [execOp, i8, evalC, evalF, evalG]; simp [go_sem]) ⟨_, rfl, rfl, Bl.refl _⟩
            · simp only [List.getElem?_toArray, List.getElem?_cons_zero, List.getElem?_cons_succ, Option.some.injEq] at ho
              subst ho
              obtain rfl := Option.some.inj hdt
              have i7 : act.eval (.tmp (7 : Nat)) = .int .i64 k := hfr 7 (by decide)
              exact plain_wp (by intro c h; cases h) (fun _ _ => trivial) (by simp only [execOp, i7, evalC, evalF, evalG]; simp [go_sem]) ⟨_, rfl, rfl, Bl.refl _⟩
            · simp only [List.getElem?_toArray, List.getElem?_cons_zero, List.getElem?_cons_succ, Option.some.injEq] at ho
              subst ho
              obtain rfl := Option.some.inj hdt
              have i36 : (act.eval (.tmp (36 : Nat))) = .func (.func G) #[] #[.pointer (some ⟨pb, 0, none⟩)] := hin ⟨7, .data⟩ (by simp) rfl 36 rfl
              have i37 : (act.eval (.tmp (37 : Nat))) = mV n n (some ⟨g, 0, none⟩) N cap := hin ⟨8, .data⟩ (by simp) rfl 37 rfl
              have i38 : (act.eval (.tmp (38 : Nat))) = .int .i64 i := hin ⟨9, .data⟩ (by simp) rfl 38 rfl
              have i39 : (act.eval (.tmp (39 : Nat))) = .int .i64 k := hin ⟨10, .data⟩ (by simp) rfl 39 rfl
              refine enter_wp G #[mV n n (some ⟨g, 0, none⟩) N cap, .int .i64 i, .int .i64 k, .pointer (some ⟨pb, 0, none⟩)] (by intro c h; cases h) (fun _ _ => trivial) (by simp only [execOp, evalC, evalF, evalG, resolve, i36, i37, i38, i39, List.map_toArray, List.map_cons, List.map_nil]; simp [invoke, eg, Result.andThen, go_sem]) (fun h => by cases h) (callsIn_wide.2 (CL.out u hu)) ?_
              rintro e w' ⟨rfl, hb⟩
              exact ⟨_, rfl, _, rfl, rfl, hb⟩
            · simp only [List.getElem?_toArray, List.getElem?_cons_zero, List.getElem?_cons_succ, Option.some.injEq] at ho
              subst ho
              obtain rfl := Option.some.inj hdt
              have i30 : (act.eval (.tmp (30 : Nat))) = .slice (some ⟨g, 0, none⟩) N cap := hin ⟨1, .data⟩ (by simp) rfl 30 rfl
              have i35 : (act.eval (.tmp (35 : Nat))) = .int .i64 q := hin ⟨6, .data⟩ (by simp) rfl 35 rfl
              exact plain_wp (by intro c h; cases h) (fun _ _ => trivial) (by simp only [execOp, i30, i35, evalC, evalF, evalG]; simp [go_sem, c0, c1, c2, hq1, hq3, hq5, WA, WQ]) ⟨_, rfl, rfl, Bl.refl _⟩
            · simp only [List.getElem?_toArray, List.getElem?_cons_zero, List.getElem?_cons_succ, Option.some.injEq] at ho
              subst ho
              cases hdt
          case still =>
            intro j o t act u0 u ho hdt hpu
            cases hpu
          case store =>
            intro o act u vs ho hsz hu hfr hin
            simp only [List.getElem?_toArray, List.getElem?_cons_zero, List.getElem?_cons_succ, Option.some.injEq] at ho
            subst ho
            obtain ⟨i40, k40⟩ : act.eval (.tmp (40 : Nat)) = vs 11 ∧ ((vs 11) = enV x) := hin 11 40 rfl rfl
            obtain ⟨i41, k41⟩ : act.eval (.tmp (41 : Nat)) = vs 12 ∧ ((vs 12) = .pointer (some ⟨g, q * 4, none⟩)) := hin 12 41 rfl rfl
            have y0 : u.cell? ⟨g, q * 4, none⟩ = some (.int .i64 y.v) := (bl_cell hu _ _ hgl).trans (CX 0 _ rfl); have e0 : u.frozen? ⟨g, q * 4, none⟩ = false := (bl_froz hu _ _ hgl).trans (FZ _); have y1 : u.cell? ⟨g, q * 4 + 1, none⟩ = some (.int .i64 y.l) := (bl_cell hu _ _ hgl).trans (CX 1 _ rfl); have e1 : u.frozen? ⟨g, q * 4 + 1, none⟩ = false := (bl_froz hu _ _ hgl).trans (FZ _); have y2 : u.cell? ⟨g, q * 4 + 2, none⟩ = some (.int .i64 y.h) := (bl_cell hu _ _ hgl).trans (CX 2 _ rfl); have e2 : u.frozen? ⟨g, q * 4 + 2, none⟩ = false := (bl_froz hu _ _ hgl).trans (FZ _); have y3 : u.cell? ⟨g, q * 4 + 3, none⟩ = some (.bool y.bad) := (bl_cell hu _ _ hgl).trans (CX 3 _ rfl); have e3 : u.frozen? ⟨g, q * 4 + 3, none⟩ = false := (bl_froz hu _ _ hgl).trans (FZ _)
            rw [k41] at i41
            rw [k40] at i40
            exact skip_wp (by intro c h; cases h) (fun _ _ => trivial) (by simp only [execOp, i41, i40]; simp [go_sem, y0, e0, y1, e1, y2, e2, y3, e3]) ⟨rfl, rfl⟩
          case fin =>
            intro vs vb u0 u hu hin hps
            have a0 := hin 0 29 rfl
            have a1 := hin 1 30 rfl
            have a2 := hin 2 31 rfl
            have a3 := hin 3 32 rfl
            have a4 := hin 4 33 rfl
            have a5 := hin 5 34 rfl
            have a6 := hin 6 35 rfl
            have a7 := hin 7 36 rfl
            have a8 := hin 8 37 rfl
            have a9 := hin 9 38 rfl
            have a10 := hin 10 39 rfl
            have a11 := hin 11 40 rfl
            have a12 := hin 12 41 rfl
            simp only [putL, Act.put, List.setIfInBounds_toArray, List.set_cons_zero, List.set_cons_succ, Nat.zero_add, Nat.reduceAdd, Nat.reduceBEq, Bool.or_false, Bool.or_true, Bool.false_or, Bool.true_or, Bool.false_eq_true, if_false, if_true, reduceIte, Nat.reduceEqDiff, beq_self_eq_true, Bool.or_self] at a0 a1 a2 a3 a4 a5 a6 a7 a8 a9 a10 a11 a12 ⊢
            rw [if_pos (by decide)] at hps
            simp only [a0, a1, a2, a3, a4, a5, a6, a7, a8, a9, a10, a11, a12]
            subst hps
            have hq' : q < (mk n n f).length := by rw [mk_len, ← HN.out]; exact hq5
            have OP := hideP (own_putN (own_blN OW.out hu) hq' x)
            rw [HP.out, mk_put hlt2 hlt, ← HP.out, ← HT.out] at OP
            have tS := hideP (mbox_putX (ht.later hu) (show w2.heap.size ≠ g by omega) (q * 4) [.int .i64 x.v, .int .i64 x.l, .int .i64 x.h, .bool x.bad])
            have zS := hideP (mbox_putX (hz.later hu) (show w.heap.size ≠ g by omega) (q * 4) [.int .i64 x.v, .int .i64 x.l, .int .i64 x.h, .bool x.bad])
            have bS := hideP (bl_putX (hB.trans hu) (show w.heap.size ≤ g by omega) (q * 4) [.int .i64 x.v, .int .i64 x.l, .int .i64 x.h, .bool x.bad])
            clear ht hz OW
            go_wp2
            go_roundw
            case rel => exact ⟨m + 1, by rw [HI.out]; simp; omega, by have := HI.out; omega, OP.out, tS.out, zS.out, bS.out⟩
            case measure => simp [intOf]; omega
        · have hni : n = i := by omega
          subst hni
          have e : n - k = m := by omega
          have HT := hideP (show triT val (wholeN 0) n (k + 1) = colT val k (triT val (wholeN 0) n k) m by rw [← e]; rfl)
          go_wp2_with fail
          go_roundw
          case rel => exact ⟨k + 1, by simp, hlt, by rw [HT.out]; exact hown, ht, hz, hB⟩
          case measure => simp [intOf]; omega
    · obtain rfl : k = n := by omega
      have RW := hideP (show Rw 4 cellsN wr (.slice (some ⟨g, 0, none⟩) N cap) (mk k k (triT val (wholeN 0) k k)) from Rw.of_own cellsN_len (xs := mk k k (triT val (wholeN 0) k k)) (by rw [mk_len, ← HN.out]; exact hown))
      have FR := hideP (show Fresh (w.heap.size + 1) (.slice (some ⟨g, 0, none⟩) N cap) from fun b hb => (hown.lt b hb).1)
      obtain ⟨c0, c1, c2, f0, f1, f2, lt⟩ := hz
      obtain ⟨d0, d1, d2, g0, g1, g2, lt2⟩ := ht
      clear hown
      go_wp2
      simp [bodyPost, results, Tryz.results36, go_sem, c0, c1, c2]
      have q := ((RW.out.set (p := ⟨w.heap.size, 0, none⟩) (.int .i64 k) FR.out).set (p := ⟨w.heap.size, 1, none⟩) (.int .i64 k) FR.out).set (p := ⟨w.heap.size, 2, none⟩) (.slice (some ⟨g, 0, none⟩) N cap) FR.out
      exact ⟨_, _, ⟨rfl, rfl⟩, ⟨⟨hd, HN.out, q.q⟩, fun b hb => by have := FR.out b hb; omega⟩, Bl.put3 hB (Nat.le_refl _) _ _ _⟩
end Go.Proofs.YtbfdkahbnfpabaaGreat

/- Contracts of mat's filled, Turn, of enclosed numbers (layer 6). Written by genMa.py. -/
namespace Go.Proofs.YtbfdkahbnfpabaaGreat
open Go.RowKit
set_option linter.unusedSimpArgs false
set_option linter.unusedVariables false

set_option maxHeartbeats 1000000 in
/-- A matrix that is filled by what a function tells of each place. -/
theorem mFilledN (G mb : Nat) (eg : ∀ (args : Array Value) (w : World), (callFunc G args).run Tryz.prog w = .ok (.enter G args) w) (f : Nat → Nat → En) (R C n : Nat) (hd : Dim R C) (hn : n = R * C) (w : World)
    (hG : ∀ i k u, i < R → k < C → Bl w u → Calls Tryz.prog G #[.int .i64 i, .int .i64 k, .pointer (some ⟨mb, 0, none⟩)] u fun e w' => e = .returned (enV (f i k)) ∧ Bl u w') :
    Calls Tryz.prog 139 #[.int .i64 R, .int .i64 C, .func (.func G) #[] #[.pointer (some ⟨mb, 0, none⟩)]] w fun e w' => ∃ p' cap', e = .returned (mV R C p' n cap') ∧ (Rw 4 cellsN w' (.slice p' n cap') (mk R C f) ∧ Fresh w.heap.size (.slice p' n cap')) ∧ Bl w w' := by
  obtain ⟨i0, hi, hz0, hz1, hz2⟩ := info_parts Tryz.info_N
  have hRC : (R : Int) * (C : Int) = n := by rw [hn]; simp
  have hn256 : n ≤ 256 := by rw [hn]; exact hd.lt
  have hR16 := hd.r2
  have hC16 := hd.c2
  have HG := hideP hG
  have HN := hideP hn
  clear hG hn
  have z0 := MBox.new w 0 0 none 0 0 36
  go_enter Tryz.func139, Tryz.ntmps139
  go_wp2_with (at_make; refine wpList_make_own _ rfl _ _ 34 rfl (w.heap.size + 1) 40 i0 (.agg #[.int .i64 0, .int .i64 0, .int .i64 0, .bool false]) 4 Tryz.underlying34 hi hz0 hz1 .i64 .i64 _ n rfl rfl (by simp) (by rw [hz2]; omega) (by unfold maxLen; omega) (by simp) ?_; intro w0 hown0 hgrow0)
  have hB0 : Bl w w0 := ((Bl.refl w).alloc _).grown hgrow0 (by simp) (fun k e => by cases e)
  have hz : MBox w0 w.heap.size 0 0 none 0 0 := mbox_block z0 (hgrow0.block _ z0.lt nofun) hgrow0.size
  clear hgrow0 z0
  go_loopw [7, 15] (fun v i wr => ∃ j : Nat, i = .int .i64 j ∧ j ≤ R ∧ wr.ownsRow (w.heap.size + 1) 40 4 v (mk j C f).length ((mk j C f).flatMap cellsN) ∧ MBox wr w.heap.size 0 0 none 0 0 ∧ Bl w wr) (fun _ i _ => R - (intOf i).toNat)
  case atStart => exact ⟨0, rfl, Nat.zero_le _, by rw [World.size_alloc] at hown0; exact hown0, hz, hB0⟩
  case round =>
    clear hown0 hz hB0
    obtain ⟨j, rfl, hj, hown, hz, hB⟩ := hrel
    by_cases hlt : j < R
    · go_wp2_with fail
      go_loopw [7, 19] (fun v i wr => ∃ k : Nat, i = .int .i64 k ∧ k ≤ C ∧ wr.ownsRow (w.heap.size + 1) 40 4 v (mk j C f ++ rowM k f j).length ((mk j C f ++ rowM k f j).flatMap cellsN) ∧ MBox wr w.heap.size 0 0 none 0 0 ∧ Bl w wr) (fun _ i _ => C - (intOf i).toNat)
      case atStart => exact ⟨0, rfl, Nat.zero_le _, by simpa [rowM] using hown, hz, hB⟩
      case round =>
        clear hown hz hB
        obtain ⟨k, rfl, hk, hown, hz, hB⟩ := hrel
        by_cases hlt2 : k < C
        · have HT := hideP (show mk j C f ++ rowM (k + 1) f j = (mk j C f ++ rowM k f j) ++ [f j k] by rw [rowM_succ, List.append_assoc])
          have hlen : (mk j C f ++ rowM k f j).length ≤ 256 := by
            have h1 : j * C + k < R * C := mk_idx hlt hlt2
            have := HN.out
            rw [List.length_append, mk_len, rowM_len]
            omega
          have G1 := hideP (HG.out j k _ hlt hlt2 hB)
          generalize mk j C f ++ rowM k f j = ys at *
          generalize f j k = x at *
          go_wp2_with fail
          refine G1.out.mono ?_
          rintro e w2 ⟨rfl, h2⟩
          replace hown := own_blN hown h2
          replace hz := hz.later h2
          replace hB := hB.trans h2
          have hys := hlen
          clear G1
          go_wp2_with (at_builtin; refine wpList_append_own _ rfl _ _ 34 rfl (w.heap.size + 1) 40 i0 (.agg #[.int .i64 0, .int .i64 0, .int .i64 0, .bool false]) 4 32 Tryz.underlying34 hi hz0 hz1 hz2 rfl (by decide) _ _ _ rfl (hown.alloc _) ⟨_, 0, none⟩ 1 1 (cellsN x) rfl rfl (newN_cells _ _ _) (oneN_cells _) (by unfold maxLen; omega) (by omega) (by have := hB.size; have := hz.lt; simp; omega) ?_; intro v' w1 hown' hgrow _)
          have R1 := own_more (ys := [x]) (hB.alloc _) (Nat.le_succ _) (hown.alloc _) (by simpa using hown') rfl hgrow
          have Z1 := (hz.later ((Bl.refl _).alloc _)).grown (hown.alloc _) hgrow (Nat.lt_succ_self _)
          clear hown hown' hgrow hz
          go_wp2
          go_roundw
          case rel => exact ⟨k + 1, by simp, hlt2, by rw [HT.out]; exact R1.2, Z1, R1.1⟩
          case measure => simp [intOf]; omega
        · obtain rfl : k = C := by omega
          have HT := hideP (mk_succ j k f)
          go_wp2_with fail
          go_roundw
          case rel => exact ⟨j + 1, by simp, hlt, by rw [HT.out]; exact hown, hz, hB⟩
          case measure => simp [intOf]; omega
    · obtain rfl : j = R := by omega
      have RW := hideP (Rw.of_own cellsN_len hown)
      have FR := hideP (show Fresh (w.heap.size + 1) _ from fun g hg => (hown.lt g hg).1)
      obtain ⟨p', cap', hv, hcc, _⟩ := RW.out.cut
      rw [mk_len, ← HN.out] at hv
      have HV := hideP hv
      clear hv
      obtain ⟨c0, c1, c2, f0, f1, f2, lt⟩ := hz
      clear hown
      rename_i v
      obtain rfl := HV.out
      go_wp2
      simp [bodyPost, results, Tryz.results139, go_sem, c0, c1, c2]
      refine ⟨p', cap', ⟨rfl, rfl⟩, ⟨((RW.out.set _ FR.out).set _ FR.out).set _ FR.out, fun g hg => by have := FR.out g hg; omega⟩, Bl.put3 hB (Nat.le_refl _) _ _ _⟩
theorem mTurn1N (R C : Nat) (p : Option Addr) (n cap : Nat) (f : Nat → Nat → En) (w : World) (h : Mx 4 cellsN w R C p n cap f) (mb : Nat) (hm : MBox w mb R C p n cap) (i k : Nat) (hi : i < C) (hk : k < R) :
    Calls Tryz.prog 140 #[.int .i64 i, .int .i64 k, .pointer (some ⟨mb, 0, none⟩)] w fun e w' => e = .returned (enV (f k i)) ∧ Bl w w' := by
  have A := hideP (fun u (hu : Bl w u) => mAtN R C p n cap f u (h.later hu) k i hk hi)
  obtain ⟨W, hW⟩ : ∃ W, W = w.alloc (.cells #[.int .i64 0, .int .i64 0, .int .i64 0, .bool false] 40) := ⟨_, rfl⟩
  have b0 : Bl w W := by rw [hW]; exact (Bl.refl _).alloc _
  have x0 : Box W w.heap.size zeroE := by rw [hW]; exact Box.new w zeroE 40
  obtain ⟨c0, c1, c2, f0, f1, f2, lt⟩ := hm
  have HW := hideP hW
  clear hW h
  generalize f k i = x at *
  go_enter Tryz.func140, Tryz.ntmps140
  go_wp2_with fail
  rw [← HW.out]
  refine (A.out _ b0).mono ?_
  rintro e w1 ⟨rfl, h1⟩
  clear c0 c1 c2 f0 f1 f2 A
  obtain ⟨d0, d1, d2, d3, g0, g1, g2, g3, lt2⟩ := x0.later h1
  go_wp2
  simp [bodyPost, results, Tryz.results140, go_sem, d0, d1, d2, d3]
  exact Bl.set4 (b0.trans h1) (Nat.le_refl _) _ _ _ _
theorem mTurnN (R C : Nat) (p : Option Addr) (n cap : Nat) (f : Nat → Nat → En) (w : World) (h : Mx 4 cellsN w R C p n cap f) :
    Calls Tryz.prog 135 #[mV R C p n cap] w fun e w' => ∃ p' cap', e = .returned (mV C R p' n cap') ∧ (Mx 4 cellsN w' C R p' n cap' (fun i k => f k i) ∧ Rw 4 cellsN w' (.slice p' n cap') (mk C R (fun i k => f k i)) ∧ Fresh w.heap.size (.slice p' n cap')) ∧ Bl w w' := by
  have hfit := h.fit
  obtain ⟨W, hW⟩ : ∃ W, W = (w.alloc (.cells #[.int .i64 R, .int .i64 C, .slice p n cap] 36)).alloc (.cells #[.int .i64 0, .int .i64 0, .slice none 0 0] 36) := ⟨_, rfl⟩
  have b0 : Bl w W := by rw [hW]; exact ((Bl.refl _).alloc _).alloc _
  have m0 : MBox W w.heap.size R C p n cap := by rw [hW]; exact (MBox.new w _ _ _ _ _ _).later ((Bl.refl _).alloc _)
  have x0 : MBox W (w.heap.size + 1) 0 0 none 0 0 := by rw [hW]; have := MBox.new (w.alloc (.cells #[.int .i64 R, .int .i64 C, .slice p n cap] 36)) 0 0 none 0 0 36; rw [World.size_alloc] at this; exact this
  have hs : W.heap.size = w.heap.size + 1 + 1 := by rw [hW]; simp
  have FI := hideP (fun u (hu : Bl W u) => mFilledN 140 w.heap.size (enters_of Tryz.func140 (by kernel_rfl) rfl) (fun i k => f k i) C R n h.1.turn (by rw [h.2.1, Nat.mul_comm]) u
    (fun i k v hi hk hv => mTurn1N R C p n cap f v (h.later (b0.trans (hu.trans hv))) _ (m0.later (hu.trans hv)) i k hi hk))
  have HD := hideP h
  have HW := hideP hW
  clear hW h
  go_enter Tryz.func135, Tryz.ntmps135
  go_wp2_with fail
  rw [← HW.out]
  refine (mRightN _ _ _ _ _ _).mono ?_
  rintro e w1 ⟨rfl, h1⟩
  rw [hfit]
  obtain ⟨c0, c1, c2, f0, f1, f2, lt⟩ := m0.later h1
  go_wp2_with fail
  refine (FI.out _ h1).mono ?_
  rintro e w2 ⟨p', cap', rfl, ⟨hR, hF⟩, h2⟩
  have HR := hideP hR
  have HF := hideP (show Fresh (w.heap.size + 1 + 1) (.slice p' n cap') from fun g hg => by have := hF g hg; have := h1.size; omega)
  clear hR hF FI c0 c1 c2 f0 f1 f2
  obtain ⟨c0, c1, c2, f0, f1, f2, lt2⟩ := x0.later (h1.trans h2)
  go_wp2
  simp [bodyPost, results, Tryz.results135, go_sem, c0, c1, c2]
  have q := ((HR.out.set (p := ⟨w.heap.size + 1, 0, none⟩) (.int .i64 C) HF.out).set (p := ⟨w.heap.size + 1, 1, none⟩) (.int .i64 R) HF.out).set (p := ⟨w.heap.size + 1, 2, none⟩) (.slice p' n cap') HF.out
  refine ⟨p', cap', ⟨rfl, rfl⟩, ⟨⟨HD.out.1.turn, by rw [HD.out.2.1, Nat.mul_comm], q.q⟩, q, fun g hg => by have := HF.out g hg; omega⟩, Bl.put3 ((b0.trans h1).trans h2) (Nat.le_succ _) _ _ _⟩
end Go.Proofs.YtbfdkahbnfpabaaGreat

/- Contracts of mat's All, and of what it tells: an iterator over a matrix's rows, of enclosed numbers (layer 6). Written by genMa.py. -/
namespace Go.Proofs.YtbfdkahbnfpabaaGreat
open Go.RowKit Go.Shelf
set_option linter.unusedSimpArgs false
set_option linter.unusedVariables false
attribute [local go_sem] Oper.semAt_some
theorem mAllN (R C : Nat) (p : Option Addr) (n cap : Nat) (f : Nat → Nat → En) (w : World) (h : Mx 4 cellsN w R C p n cap f) :
    Calls Tryz.prog 47 #[mV R C p n cap] w fun e w' => ∃ B p' cap', e = .returned (.func (.func 70) #[] #[.pointer (some ⟨B, 0, none⟩)]) ∧ KeptIn 4 cellsN w' w.heap.size w'.heap.size B R C p' n cap' f ∧ Bl w w' := by
  have hfit := h.fit
  obtain ⟨W, hW⟩ : ∃ W, W = (w.alloc (.cells #[.int .i64 R, .int .i64 C, .slice p n cap] 36)) := ⟨_, rfl⟩
  have b0 : Bl w W := by rw [hW]; exact (Bl.refl _).alloc _
  have m0 : MBox W w.heap.size R C p n cap := by rw [hW]; exact MBox.new w _ _ _ _ _ _
  have NW := hideP (mNewN R C p n cap (mk R C f) W (h.2.2.later b0) hfit (by rw [mk_len, h.2.1]))
  have HD := hideP h
  obtain ⟨c0, c1, c2, f0, f1, f2, lt⟩ := m0
  have HW := hideP hW
  clear hW h
  go_enter Tryz.func47, Tryz.ntmps47
  go_wp2_with fail
  rw [← HW.out]
  refine NW.out.mono ?_
  rintro e w1 ⟨p', cap', rfl, ⟨hR, hF⟩, h1⟩
  have HR := hideP hR
  have HF := hideP hF
  clear hR hF NW c0 c1 c2 f0 f1 f2
  go_wp2
  go_ret
  have hb : Bl w w1 := b0.trans h1
  refine ⟨w1.heap.size, p', cap', rfl, ?_, hb.alloc _⟩
  exact ⟨HD.out.1, HD.out.2.1, MBox.new w1 _ _ _ _ _ _, hb.size, by simp, HR.out.later ((Bl.refl _).alloc _), fun g hg => ⟨by have := HF.out g hg; have := b0.size; omega, by have := HR.out.lt g hg; simp; omega⟩⟩
theorem Tryz.yieldMN (l : Nat) (w : World) : (binOp .eql 101 (.func (.yield l) #[] #[]) .nilFunc).run Tryz.prog w = .ok (.bool false) w := by kernel_rfl
set_option maxRecDepth 100000 in
set_option maxHeartbeats 2000000 in
theorem iterMN (m l B lo hi R C : Nat) (p : Option Addr) (n cap : Nat) (f : Nat → Nat → En) (J Jx : List RowX → World → Prop) (W : World) (hJ : AbidesFrom W.heap.size J) (hh : hi ≤ W.heap.size)
    (hY : ∀ pre x W0 W1, J pre W0 → RowOk 4 cellsN R C f x W0 W1 → pre.length < R → YieldAt Fence.wide (m - 1) Tryz.prog l #[.int .i64 x.1, rowV C x] W1 fun e W' =>
      (e = .returned (.bool true) ∧ J (pre ++ [x]) W' ∧ Span lo hi W1 W') ∨ (e = .returned (.bool false) ∧ Jx (pre ++ [x]) W'))
    (hP : KeptIn 4 cellsN W lo hi B R C p n cap f) (h0 : J [] W) :
    CallsIn Fence.wide m Tryz.prog 70 #[.func (.yield l) #[] #[], .pointer (some ⟨B, 0, none⟩)] W fun e W' => (∃ v, e = .returned v) ∧
      ((∃ zs : List RowX, zs.map (·.1) = List.range R ∧ J zs W') ∨ (∃ pre : List RowX, pre.map (·.1) <+: List.range R ∧ Jx pre W')) := by
  have yn := Tryz.yieldMN l
  have HP := hideP hP
  have hR16 := hP.hd.r2
  obtain ⟨c0, c1, c2, f0, f1, f2, lt⟩ := hP.box
  clear hP
  refine callsIn_of_wp Tryz.func70 rfl trivial ?_ rfl
  simp only [Tryz.ntmps70, List.size_toArray, List.length_cons, List.length_nil, Nat.reduceAdd, Nat.reduceSub, Array.replicate_succ, Array.replicate_zero, List.push_toArray, List.append_toArray, List.nil_append, List.cons_append]
  gi_wp2
  clear c0 c1 c2 f0 f1 f2
  gi_loopw [8] (fun i wr => ∃ (k : Nat) (pre : List RowX), k ≤ R ∧ i = .int .i64 k ∧ pre.map (·.1) = List.range k ∧ J pre wr ∧ Span lo hi W wr) (fun i _ => R - (intOf i).toNat)
  case atStart => exact ⟨0, [], Nat.zero_le _, rfl, rfl, h0, Span.refl _ _ _⟩
  case round =>
    obtain ⟨k, pre, hk, rfl, hpre, hJs, hsp⟩ := hrel
    have hlen : pre.length = k := by have := congrArg List.length hpre; simpa using this
    have HPR := hideP hpre
    clear hpre
    by_cases hlt : k < R
    · have HKK := hideP (HP.out.later hsp)
      obtain ⟨c0, c1, c2, f0, f1, f2, lt⟩ := HKK.out.box
      gi_wp2_with fail
      refine ⟨trivial, fun h => (by cases h), ?_⟩
      refine (callsIn_wide.2 (mRowN R C p n cap f _ HKK.out.mx k hlt)).mono ?_
      rintro e w1 ⟨p', cap', rfl, ⟨hR, hF, hcc⟩, h1⟩
      obtain ⟨fn, tmps, assign, body, hyd, hR2⟩ := hY pre (k, p', cap') _ w1 hJs ⟨h1, hlt, hR, hF, hcc⟩ (by omega)
      dsimp only at hyd
      clear c0 c1 c2 f0 f1 f2 hR hF
      have hR3 : RoundIn Fence.wide (m - 1) Tryz.prog l fn tmps assign body w1 fun e W' => ∃ r : Bool, e = .returned (.bool r) ∧ ((r = true ∧ J (pre ++ [(k, p', cap')]) W' ∧ Span lo hi w1 W') ∨ (r = false ∧ Jx (pre ++ [(k, p', cap')]) W')) := by
        refine hR2.mono ?_
        rintro e W' (⟨rfl, h1, h2⟩ | ⟨rfl, h1⟩)
        · exact ⟨true, rfl, .inl ⟨rfl, h1, h2⟩⟩
        · exact ⟨false, rfl, .inr ⟨rfl, h1⟩⟩
      gi_wp2_with fail
      refine ⟨fun h => (by cases h), ?_⟩
      refine hR3.mono ?_
      rintro e W3 ⟨r, rfl, hr⟩
      have sp1 : Span lo hi W w1 := hsp.trans (h1.span (by have := hsp.size; omega))
      have HT := hideP (show (pre ++ [((k, p', cap') : RowX)]).map (·.1) = List.range (k + 1) by rw [List.map_append, HPR.out, List.range_succ]; rfl)
      rcases hr with ⟨rfl, hJ3, hk3⟩ | ⟨rfl, hJx3⟩
      · gi_wp2
        go_roundw
        case rel => exact ⟨k + 1, _, by omega, by simp, HT.out, hJ3, sp1.trans hk3⟩
        case measure => simp [intOf]; omega
      · gi_wp2
        refine bodyPost_ret (results_none rfl _ _ _) rfl ?_
        exact ⟨⟨_, rfl⟩, .inr ⟨_, by rw [HT.out]; exact range_pre hlt, hJx3⟩⟩
    · obtain rfl : k = R := by omega
      have HJ := hideP hJs
      clear hJs
      gi_wp2
      go_end0
      exact ⟨⟨_, rfl⟩, .inl ⟨pre, HPR.out, HJ.out⟩⟩
/-- All's function as what a loop goes through: all rows in their order, or the first ones, where a round has said that it is enough. -/
theorem seqMN (m B lo hi R C : Nat) (p : Option Addr) (n cap : Nat) (f : Nat → Nat → En) (w : World) (hh : hi ≤ w.heap.size) (hP : KeptIn 4 cellsN w lo hi B R C p n cap f) :
    SeqV Fence.wide m Tryz.prog 70 #[.pointer (some ⟨B, 0, none⟩)] (fun x : RowX => #[.int .i64 x.1, rowV C x]) (RowOk 4 cellsN R C f) (Span lo hi) (fun zs => zs.map (·.1) = List.range R) (fun pre => pre.map (·.1) <+: List.range R) R w :=
  fun l J Jx W hW hJ _ hY h0 => iterMN m l B lo hi R C p n cap f J Jx W hJ (Nat.le_trans hh hW.size) hY (hP.later (Bl.span hW hh)) h0
end Go.Proofs.YtbfdkahbnfpabaaGreat

/- Contracts of tri's Clear, Root, of enclosed numbers (layer 7). Written by genTr.py. -/
namespace Go.Proofs.YtbfdkahbnfpabaaGreat
open Go.RowKit
set_option linter.unusedSimpArgs false
set_option linter.unusedVariables false

theorem Tryz.mDivN (x : Value) (w : World) : (method 268 40 x "Div").run Tryz.prog w = .ok (144, x) w := by kernel_rfl
theorem Tryz.mRootN (x : Value) (w : World) : (method 268 40 x "Root").run Tryz.prog w = .ok (147, x) w := by kernel_rfl
/-- A matrix with z above its diagonal. -/
def clrN (f : Nat → Nat → En) (i k : Nat) : En := if k ≤ i then f i k else wholeN 0
end Go.Proofs.YtbfdkahbnfpabaaGreat

/- Contracts of tri's Root, of enclosed numbers (layer 7). Written by genTr.py. -/
namespace Go.Proofs.YtbfdkahbnfpabaaGreat
open Go.RowKit
set_option linter.unusedSimpArgs false
set_option linter.unusedVariables false

/-- What Root tells of a place, of what it is so far. -/
def rootVN (P g : Nat → Nat → En) (i k : Nat) : En := if i = k then rootE (subE (P i k) (dotN (rowM k g i) (rowM k g k))) else divE (subE (P i k) (dotN (rowM k g i) (rowM k g k))) (g k k)
set_option maxRecDepth 100000 in
set_option maxHeartbeats 2000000 in
theorem tRoot1N (n : Nat) (p0 : Option Addr) (N cap0 : Nat) (P : Nat → Nat → En) (p : Option Addr) (cap : Nat) (g : Nat → Nat → En) (w : World) (hP : Mx 4 cellsN w n n p0 N cap0 P) (pb : Nat) (hm : MBox w pb n n p0 N cap0) (hg : Mx 4 cellsN w n n p N cap g) (i k : Nat) (hi : i < n) (hki : k ≤ i) :
    Calls Tryz.prog 37 #[mV n n p N cap, .int .i64 i, .int .i64 k, .pointer (some ⟨pb, 0, none⟩)] w fun e w' => e = .returned (enV (rootVN P g i k)) ∧ Bl w w' := by
  have fm : Tryz.prog.follows .mixedOrders = true := by kernel_rfl
  have egA := enters_of Tryz.func38 (by kernel_rfl) rfl
  have egR := enters_of Tryz.func40 (by kernel_rfl) rfl
  have egD := enters_of Tryz.func39 (by kernel_rfl) rfl
  have egS := enters_of Tryz.func148 (by kernel_rfl) rfl
  have egV := enters_of Tryz.func144 (by kernel_rfl) rfl
  have hk : k < n := by omega
  have hkn : k ≤ n := by omega
  have hn16 := hg.1.r2
  have XS := hideP (esub_any (P i k) (dotN (rowM k g i) (rowM k g k)))
  have XV := hideP (show rootVN P g i k = if i = k then rootE (subE (P i k) (dotN (rowM k g i) (rowM k g k))) else divE (subE (P i k) (dotN (rowM k g i) (rowM k g k))) (g k k) from rfl)
  generalize subE (P i k) (dotN (rowM k g i) (rowM k g k)) = x at *
  obtain ⟨W, hW⟩ : ∃ W, W = (w.alloc (.cells #[.int .i64 n, .int .i64 n, .slice p N cap] 36)).alloc (.cells #[.int .i64 0, .int .i64 0, .int .i64 0, .bool false] 40) := ⟨_, rfl⟩
  have b0 : Bl w W := by rw [hW]; exact ((Bl.refl _).alloc _).alloc _
  have ms : MBox W w.heap.size n n p N cap := by rw [hW]; exact (MBox.new w _ _ _ _ _ _).later ((Bl.refl _).alloc _)
  have x0 : Box W (w.heap.size + 1) zeroE := by rw [hW]; have := Box.new (w.alloc (.cells #[.int .i64 n, .int .i64 n, .slice p N cap] 36)) zeroE 40; rw [World.size_alloc] at this; exact this
  have hs : W.heap.size = w.heap.size + 1 + 1 := by rw [hW]; simp
  have HW := hideP hW
  clear hW
  go_enter Tryz.func37, Tryz.ntmps37
  go_wp2_with fail
  rw [← HW.out]
  refine (wpIn_wide (n := 8)).1 (region_q fm [some 9, some 10, some 11, some 12, some 13, some 14, some 15, some 16, some 17, some 18, some 19, some 20, some 21, some 22, some 23, some 24, some 25, some 8, none] (fun _ => false) 18 (by kernel_rfl) (by rfl)
    (fun j v u => match j with | 0 => v = mV n n p0 N cap0 | 1 => v = .int .i64 i | 2 => v = .int .i64 k | 3 => v = enV (P i k) | 4 => v = .iface 40 (enV (P i k)) | 5 => v = mV n n p N cap | 6 => v = .int .i64 i | 7 => ∃ q c, v = .slice q n c ∧ Rw 4 cellsN u (.slice q n c) (rowM n g i) ∧ n ≤ c | 8 => v = .int .i64 k | 9 => ∃ q c, v = .slice q k c ∧ Rw 4 cellsN u (.slice q k c) (rowM k g i) | 10 => v = mV n n p N cap | 11 => v = .int .i64 k | 12 => ∃ q c, v = .slice q n c ∧ Rw 4 cellsN u (.slice q n c) (rowM n g k) ∧ n ≤ c | 13 => v = .int .i64 k | 14 => ∃ q c, v = .slice q k c ∧ Rw 4 cellsN u (.slice q k c) (rowM k g k) | 15 => v = enV (dotN (rowM k g i) (rowM k g k)) | 16 => v = enV x | 17 => ∃ b, v = .pointer (some ⟨b, 0, none⟩) ∧ W.heap.size ≤ b ∧ Box u b zeroE | _ => False)
    (by
            intro j v u u' hb h
            split at h <;> first | exact h | (obtain ⟨q, c, e, h1, h2⟩ := h; exact ⟨q, c, e, h1.later hb, h2⟩) | (obtain ⟨q, c, e, h1⟩ := h; exact ⟨q, c, e, h1.later hb⟩) | (obtain ⟨b, e, h1, h2⟩ := h; exact ⟨b, e, h1, h2.later hb⟩)) (fun vs u0 u => ∃ b, vs 17 = .pointer (some ⟨b, 0, none⟩) ∧ Box u b x ∧ Box u (w.heap.size + 1) zeroE ∧ Bl w u ∧ Bl W u) ?step ?still ?store ?fin)
  case step =>
    intro j o t act u ho hdt hpu hsz hu hfr hin
    have hj : j < 19 := (Array.getElem?_eq_some_iff.1 ho).1
    obtain ⟨c0, c1, c2, _, _, _, _⟩ := hm.later (b0.trans hu)
    obtain ⟨d0, d1, d2, _, _, _, _⟩ := ms.later hu
    rcases (by omega : j = 0 ∨ j = 1 ∨ j = 2 ∨ j = 3 ∨ j = 4 ∨ j = 5 ∨ j = 6 ∨ j = 7 ∨ j = 8 ∨ j = 9 ∨ j = 10 ∨ j = 11 ∨ j = 12 ∨ j = 13 ∨ j = 14 ∨ j = 15 ∨ j = 16 ∨ j = 17 ∨ j = 18) with rfl | rfl | rfl | rfl | rfl | rfl | rfl | rfl | rfl | rfl | rfl | rfl | rfl | rfl | rfl | rfl | rfl | rfl | rfl
    · simp only [List.getElem?_toArray, List.getElem?_cons_zero, List.getElem?_cons_succ, Option.some.injEq] at ho
      subst ho
      obtain rfl := Option.some.inj hdt
      have i3 : act.eval (.tmp (3 : Nat)) = .pointer (some ⟨pb, 0, none⟩) := hfr 3 (by decide)
      exact plain_wp (by intro c h; cases h) (fun _ _ => trivial) (by simp only [execOp, i3, evalC, evalF, evalG]; simp [go_sem, c0, c1, c2, d0, d1, d2]) ⟨_, rfl, rfl, Bl.refl _⟩
    · simp only [List.getElem?_toArray, List.getElem?_cons_zero, List.getElem?_cons_succ, Option.some.injEq] at ho
      subst ho
      obtain rfl := Option.some.inj hdt
      have i1 : act.eval (.tmp (1 : Nat)) = .int .i64 i := hfr 1 (by decide)
      exact plain_wp (by intro c h; cases h) (fun _ _ => trivial) (by simp only [execOp, i1, evalC, evalF, evalG]; simp [go_sem]) ⟨_, rfl, rfl, Bl.refl _⟩
    · simp only [List.getElem?_toArray, List.getElem?_cons_zero, List.getElem?_cons_succ, Option.some.injEq] at ho
      subst ho
      obtain rfl := Option.some.inj hdt
      have i2 : act.eval (.tmp (2 : Nat)) = .int .i64 k := hfr 2 (by decide)
      exact plain_wp (by intro c h; cases h) (fun _ _ => trivial) (by simp only [execOp, i2, evalC, evalF, evalG]; simp [go_sem]) ⟨_, rfl, rfl, Bl.refl _⟩
    · simp only [List.getElem?_toArray, List.getElem?_cons_zero, List.getElem?_cons_succ, Option.some.injEq] at ho
      subst ho
      obtain rfl := Option.some.inj hdt
      have i9 : (act.eval (.tmp (9 : Nat))) = mV n n p0 N cap0 := hin ⟨0, .data⟩ (by simp) rfl 9 rfl
      have i10 : (act.eval (.tmp (10 : Nat))) = .int .i64 i := hin ⟨1, .data⟩ (by simp) rfl 10 rfl
      have i11 : (act.eval (.tmp (11 : Nat))) = .int .i64 k := hin ⟨2, .data⟩ (by simp) rfl 11 rfl
      refine enter_wp 38 #[mV n n p0 N cap0, .int .i64 i, .int .i64 k] (by intro c h; cases h) (fun _ _ => trivial) (by simp only [execOp, evalC, evalF, evalG, resolve, i9, i10, i11, List.map_toArray, List.map_cons, List.map_nil]; simp [invoke, egA, Result.andThen, go_sem]) (by intro h; cases h) (callsIn_wide.2 (mAtN n n p0 N cap0 P u (hP.later (b0.trans hu)) i k hi hk)) ?_
      rintro e w' ⟨rfl, hb⟩
      exact ⟨_, rfl, _, rfl, rfl, hb⟩
    · simp only [List.getElem?_toArray, List.getElem?_cons_zero, List.getElem?_cons_succ, Option.some.injEq] at ho
      subst ho
      obtain rfl := Option.some.inj hdt
      have i12 : (act.eval (.tmp (12 : Nat))) = enV (P i k) := hin ⟨3, .data⟩ (by simp) rfl 12 rfl
      exact plain_wp (by intro c h; cases h) (fun _ _ => trivial) (by simp only [execOp, i12, evalC, evalF, evalG]; simp [go_sem, c0, c1, c2, d0, d1, d2]) ⟨_, rfl, rfl, Bl.refl _⟩
    · simp only [List.getElem?_toArray, List.getElem?_cons_zero, List.getElem?_cons_succ, Option.some.injEq] at ho
      subst ho
      obtain rfl := Option.some.inj hdt
      have i4 : act.eval (.tmp (4 : Nat)) = .pointer (some ⟨w.heap.size, 0, none⟩) := hfr 4 (by decide)
      exact plain_wp (by intro c h; cases h) (fun _ _ => trivial) (by simp only [execOp, i4, evalC, evalF, evalG]; simp [go_sem, c0, c1, c2, d0, d1, d2]) ⟨_, rfl, rfl, Bl.refl _⟩
    · simp only [List.getElem?_toArray, List.getElem?_cons_zero, List.getElem?_cons_succ, Option.some.injEq] at ho
      subst ho
      obtain rfl := Option.some.inj hdt
      have i1 : act.eval (.tmp (1 : Nat)) = .int .i64 i := hfr 1 (by decide)
      exact plain_wp (by intro c h; cases h) (fun _ _ => trivial) (by simp only [execOp, i1, evalC, evalF, evalG]; simp [go_sem]) ⟨_, rfl, rfl, Bl.refl _⟩
    · simp only [List.getElem?_toArray, List.getElem?_cons_zero, List.getElem?_cons_succ, Option.some.injEq] at ho
      subst ho
      obtain rfl := Option.some.inj hdt
      have i14 : (act.eval (.tmp (14 : Nat))) = mV n n p N cap := hin ⟨5, .data⟩ (by simp) rfl 14 rfl
      have i15 : (act.eval (.tmp (15 : Nat))) = .int .i64 i := hin ⟨6, .data⟩ (by simp) rfl 15 rfl
      refine enter_wp 40 #[mV n n p N cap, .int .i64 i] (by intro c h; cases h) (fun _ _ => trivial) (by simp only [execOp, evalC, evalF, evalG, resolve, i14, i15, List.map_toArray, List.map_cons, List.map_nil]; simp [invoke, egR, Result.andThen, go_sem]) (by intro h; cases h) (callsIn_wide.2 (mRowN n n p N cap g u (hg.later (b0.trans hu)) i hi)) ?_
      rintro e w' ⟨q, c, rfl, ⟨hR, _, hc⟩, hb⟩
      exact ⟨_, rfl, _, rfl, ⟨q, c, rfl, hR, hc⟩, hb⟩
    · simp only [List.getElem?_toArray, List.getElem?_cons_zero, List.getElem?_cons_succ, Option.some.injEq] at ho
      subst ho
      obtain rfl := Option.some.inj hdt
      have i2 : act.eval (.tmp (2 : Nat)) = .int .i64 k := hfr 2 (by decide)
      exact plain_wp (by intro c h; cases h) (fun _ _ => trivial) (by simp only [execOp, i2, evalC, evalF, evalG]; simp [go_sem]) ⟨_, rfl, rfl, Bl.refl _⟩
    · simp only [List.getElem?_toArray, List.getElem?_cons_zero, List.getElem?_cons_succ, Option.some.injEq] at ho
      subst ho
      obtain rfl := Option.some.inj hdt
      have i16 : ∃ q c, (act.eval (.tmp (16 : Nat))) = .slice q n c ∧ Rw 4 cellsN u (.slice q n c) (rowM n g i) ∧ n ≤ c := hin ⟨7, .data⟩ (by simp) rfl 16 rfl
      have i17 : (act.eval (.tmp (17 : Nat))) = .int .i64 k := hin ⟨8, .data⟩ (by simp) rfl 17 rfl
      obtain ⟨q, c, e1, hr, hc⟩ := i16
      have hck : ¬ c < k := by omega
      exact plain_wp (by intro c h; cases h) (fun _ _ => trivial) (by simp only [execOp, e1, i17, Option.map_some, Option.map_none]; simp [go_sem, hck]) ⟨_, rfl, ⟨q, c, rfl, rw_row7 hr hkn⟩, Bl.refl _⟩
    · simp only [List.getElem?_toArray, List.getElem?_cons_zero, List.getElem?_cons_succ, Option.some.injEq] at ho
      subst ho
      obtain rfl := Option.some.inj hdt
      have i4 : act.eval (.tmp (4 : Nat)) = .pointer (some ⟨w.heap.size, 0, none⟩) := hfr 4 (by decide)
      exact plain_wp (by intro c h; cases h) (fun _ _ => trivial) (by simp only [execOp, i4, evalC, evalF, evalG]; simp [go_sem, c0, c1, c2, d0, d1, d2]) ⟨_, rfl, rfl, Bl.refl _⟩
    · simp only [List.getElem?_toArray, List.getElem?_cons_zero, List.getElem?_cons_succ, Option.some.injEq] at ho
      subst ho
      obtain rfl := Option.some.inj hdt
      have i2 : act.eval (.tmp (2 : Nat)) = .int .i64 k := hfr 2 (by decide)
      exact plain_wp (by intro c h; cases h) (fun _ _ => trivial) (by simp only [execOp, i2, evalC, evalF, evalG]; simp [go_sem]) ⟨_, rfl, rfl, Bl.refl _⟩
    · simp only [List.getElem?_toArray, List.getElem?_cons_zero, List.getElem?_cons_succ, Option.some.injEq] at ho
      subst ho
      obtain rfl := Option.some.inj hdt
      have i19 : (act.eval (.tmp (19 : Nat))) = mV n n p N cap := hin ⟨10, .data⟩ (by simp) rfl 19 rfl
      have i20 : (act.eval (.tmp (20 : Nat))) = .int .i64 k := hin ⟨11, .data⟩ (by simp) rfl 20 rfl
      refine enter_wp 40 #[mV n n p N cap, .int .i64 k] (by intro c h; cases h) (fun _ _ => trivial) (by simp only [execOp, evalC, evalF, evalG, resolve, i19, i20, List.map_toArray, List.map_cons, List.map_nil]; simp [invoke, egR, Result.andThen, go_sem]) (by intro h; cases h) (callsIn_wide.2 (mRowN n n p N cap g u (hg.later (b0.trans hu)) k hk)) ?_
      rintro e w' ⟨q, c, rfl, ⟨hR, _, hc⟩, hb⟩
      exact ⟨_, rfl, _, rfl, ⟨q, c, rfl, hR, hc⟩, hb⟩
    · simp only [List.getElem?_toArray, List.getElem?_cons_zero, List.getElem?_cons_succ, Option.some.injEq] at ho
      subst ho
      obtain rfl := Option.some.inj hdt
      have i2 : act.eval (.tmp (2 : Nat)) = .int .i64 k := hfr 2 (by decide)
      exact plain_wp (by intro c h; cases h) (fun _ _ => trivial) (by simp only [execOp, i2, evalC, evalF, evalG]; simp [go_sem]) ⟨_, rfl, rfl, Bl.refl _⟩
    · simp only [List.getElem?_toArray, List.getElem?_cons_zero, List.getElem?_cons_succ, Option.some.injEq] at ho
      subst ho
      obtain rfl := Option.some.inj hdt
      have i21 : ∃ q c, (act.eval (.tmp (21 : Nat))) = .slice q n c ∧ Rw 4 cellsN u (.slice q n c) (rowM n g k) ∧ n ≤ c := hin ⟨12, .data⟩ (by simp) rfl 21 rfl
      have i22 : (act.eval (.tmp (22 : Nat))) = .int .i64 k := hin ⟨13, .data⟩ (by simp) rfl 22 rfl
      obtain ⟨q, c, e1, hr, hc⟩ := i21
      have hck : ¬ c < k := by omega
      exact plain_wp (by intro c h; cases h) (fun _ _ => trivial) (by simp only [execOp, e1, i22, Option.map_some, Option.map_none]; simp [go_sem, hck]) ⟨_, rfl, ⟨q, c, rfl, rw_row7 hr hkn⟩, Bl.refl _⟩
    · simp only [List.getElem?_toArray, List.getElem?_cons_zero, List.getElem?_cons_succ, Option.some.injEq] at ho
      subst ho
      obtain rfl := Option.some.inj hdt
      have i18 : ∃ q c, (act.eval (.tmp (18 : Nat))) = .slice q k c ∧ Rw 4 cellsN u (.slice q k c) (rowM k g i) := hin ⟨9, .data⟩ (by simp) rfl 18 rfl
      have i23 : ∃ q c, (act.eval (.tmp (23 : Nat))) = .slice q k c ∧ Rw 4 cellsN u (.slice q k c) (rowM k g k) := hin ⟨14, .data⟩ (by simp) rfl 23 rfl
      obtain ⟨q1, c1', e1, hr1⟩ := i18
      obtain ⟨q2, c2', e2, hr2⟩ := i23
      refine enter_wp 39 #[.slice q1 k c1', .slice q2 k c2'] (by intro c h; cases h) (fun _ _ => trivial) (by simp only [execOp, evalC, evalF, evalG, resolve, e1, e2, List.map_toArray, List.map_cons, List.map_nil]; simp [invoke, egD, Result.andThen, go_sem]) (by intro h; cases h) (callsIn_wide.2 (vDotN _ _ (rowM k g i) (rowM k g k) u hr1.q hr2.q (by rw [rowM_len]; omega) (by rw [rowM_len]; omega))) ?_
      rintro e w' ⟨rfl, hb⟩
      exact ⟨_, rfl, _, rfl, rfl, hb⟩
    · simp only [List.getElem?_toArray, List.getElem?_cons_zero, List.getElem?_cons_succ, Option.some.injEq] at ho
      subst ho
      obtain rfl := Option.some.inj hdt
      have i13 : (act.eval (.tmp (13 : Nat))) = .iface 40 (enV (P i k)) := hin ⟨4, .data⟩ (by simp) rfl 13 rfl
      have i24 : (act.eval (.tmp (24 : Nat))) = enV (dotN (rowM k g i) (rowM k g k)) := hin ⟨15, .data⟩ (by simp) rfl 24 rfl
      have iv := Tryz.mSubN
      refine enter_wp 148 #[enV (P i k), enV (dotN (rowM k g i) (rowM k g k))] (by intro c h; cases h) (fun _ _ => trivial) (by simp only [execOp, evalC, evalF, evalG, resolve, i13, i24, List.map_toArray, List.map_cons, List.map_nil]; simp [invoke, iv, egS, Result.andThen, go_sem]) (by intro h; cases h) (callsIn_wide.2 (XS.out u)) ?_
      rintro e w' ⟨rfl, hb⟩
      exact ⟨_, rfl, _, rfl, rfl, hb⟩
    · simp only [List.getElem?_toArray, List.getElem?_cons_zero, List.getElem?_cons_succ, Option.some.injEq] at ho
      subst ho
      obtain rfl := Option.some.inj hdt
      exact plain_wp (by intro c h; cases h) (fun _ _ => trivial) (w' := u.alloc (.cells #[.int .i64 0, .int .i64 0, .int .i64 0, .bool false] 40)) (v := .pointer (some ⟨u.heap.size, 0, none⟩)) (by simp only [execOp]; simp [go_sem]) ⟨_, rfl, ⟨u.heap.size, rfl, hu.size, Box.new u zeroE _⟩, (Bl.refl _).alloc _⟩
    · simp only [List.getElem?_toArray, List.getElem?_cons_zero, List.getElem?_cons_succ, Option.some.injEq] at ho
      subst ho
      cases hdt
  case still =>
    intro j o t act u0 u ho hdt hpu
    cases hpu
  case store =>
    intro o act u vs ho hsz hu hfr hin
    simp only [List.getElem?_toArray, List.getElem?_cons_zero, List.getElem?_cons_succ, Option.some.injEq] at ho
    subst ho
    obtain ⟨i8, k8⟩ : act.eval (.tmp (8 : Nat)) = vs 17 ∧ (∃ b, (vs 17) = .pointer (some ⟨b, 0, none⟩) ∧ W.heap.size ≤ b ∧ Box u b zeroE) := hin 17 8 rfl rfl
    obtain ⟨i25, k25⟩ : act.eval (.tmp (25 : Nat)) = vs 16 ∧ ((vs 16) = enV x) := hin 16 25 rfl rfl
    obtain ⟨b, e1, hb, bx⟩ := k8
    rw [e1] at i8
    rw [k25] at i25
    obtain ⟨c0, c1, c2, c3, f0, f1, f2, f3, ltb⟩ := id bx
    exact skip_wp (by intro c h; cases h) (fun _ _ => trivial) (by simp only [execOp, i8, i25]; simp [go_sem, c0, f0, c1, f1, c2, f2, c3, f3]) ⟨rfl, b, e1, bx.fill x, (x0.later hu).oth (by omega) _ _ _ _, Bl.set4 (b0.trans hu) (by have := b0.size; omega) _ _ _ _, Bl.set4 hu hb _ _ _ _⟩
  case fin =>
    intro vs vb u0 u hu hin hps
    have a0 := hin 0 9 rfl
    have a1 := hin 1 10 rfl
    have a2 := hin 2 11 rfl
    have a3 := hin 3 12 rfl
    have a4 := hin 4 13 rfl
    have a5 := hin 5 14 rfl
    have a6 := hin 6 15 rfl
    have a7 := hin 7 16 rfl
    have a8 := hin 8 17 rfl
    have a9 := hin 9 18 rfl
    have a10 := hin 10 19 rfl
    have a11 := hin 11 20 rfl
    have a12 := hin 12 21 rfl
    have a13 := hin 13 22 rfl
    have a14 := hin 14 23 rfl
    have a15 := hin 15 24 rfl
    have a16 := hin 16 25 rfl
    have a17 := hin 17 8 rfl
    simp only [putL, Act.put, List.setIfInBounds_toArray, List.set_cons_zero, List.set_cons_succ, Nat.zero_add, Nat.reduceAdd, Nat.reduceBEq, Bool.or_false, Bool.or_true, Bool.false_or, Bool.true_or, Bool.false_eq_true, if_false, if_true, reduceIte, Nat.reduceEqDiff, beq_self_eq_true, Bool.or_self] at a0 a1 a2 a3 a4 a5 a6 a7 a8 a9 a10 a11 a12 a13 a14 a15 a16 a17 ⊢
    rw [if_pos (by decide)] at hps
    simp only [a0, a1, a2, a3, a4, a5, a6, a8, a10, a11, a13, a15, a16]
    obtain ⟨b, e17, bx, xz, hbw, hbW⟩ := hps
    simp only [e17]
    clear a7 a9 a12 a14 a17
    have kk := k
    clear kk
    obtain ⟨c0, c1, c2, c3, f0, f1, f2, f3, ltb⟩ := id bx
    by_cases hik : i = k
    · have e0 : ((i : Int) == (k : Int)) = true := by simp [hik]
      have iv := Tryz.mRootN
      go_wp2_with fail
      refine (eroot_any x _).mono ?_
      rintro e w3 ⟨rfl, h3⟩
      clear c0 c1 c2 c3 f0 f1 f2 f3 iv
      obtain ⟨c0, c1, c2, c3, f0, f1, f2, f3, lt3⟩ := xz.later h3
      go_wp2
      simp [bodyPost, results, Tryz.results37, go_sem, c0, c1, c2, c3]
      exact ⟨by rw [XV.out, if_pos hik]; simp, Bl.set4 (hbw.trans h3) (Nat.le_succ _) _ _ _ _⟩
    · have e0 : ((i : Int) == (k : Int)) = false := by simp; omega
      clear c0 c1 c2 c3 f0 f1 f2 f3 ltb
      go_wp2_with fail
      refine (wpIn_wide (n := 8)).1 (region_q fm [some 32, some 33, some 34, some 35, some 36, some 37, some 38, none] (fun _ => false) 7 (by kernel_rfl) (by rfl)
        (fun j v u => match j with | 0 => v = enV x | 1 => v = .iface 40 (enV x) | 2 => v = mV n n p N cap | 3 => v = .int .i64 k | 4 => v = .int .i64 k | 5 => v = enV (g k k) | 6 => v = enV (divE x (g k k)) | _ => False)
        (fun j v u u' _ h => h) (fun vs u0 u => Box u (w.heap.size + 1) (divE x (g k k)) ∧ Bl w u) ?step ?still ?store ?fin)
      case step =>
        intro j o t act u ho hdt hpu hsz hu hfr hin
        have hj : j < 8 := (Array.getElem?_eq_some_iff.1 ho).1
        obtain ⟨c0, c1, c2, c3, f0, f1, f2, f3, ltb⟩ := bx.later hu
        obtain ⟨d0, d1, d2, _, _, _, _⟩ := ms.later (hbW.trans hu)
        rcases (by omega : j = 0 ∨ j = 1 ∨ j = 2 ∨ j = 3 ∨ j = 4 ∨ j = 5 ∨ j = 6 ∨ j = 7) with rfl | rfl | rfl | rfl | rfl | rfl | rfl | rfl
        · simp only [List.getElem?_toArray, List.getElem?_cons_zero, List.getElem?_cons_succ, Option.some.injEq] at ho
          subst ho
          obtain rfl := Option.some.inj hdt
          have i8 : act.eval (.tmp (8 : Nat)) = .pointer (some ⟨b, 0, none⟩) := hfr 8 (by decide)
          exact plain_wp (by intro c h; cases h) (fun _ _ => trivial) (by simp only [execOp, i8, evalC, evalF, evalG]; simp [go_sem, c0, c1, c2, c3, d0, d1, d2]) ⟨_, rfl, rfl, Bl.refl _⟩
        · simp only [List.getElem?_toArray, List.getElem?_cons_zero, List.getElem?_cons_succ, Option.some.injEq] at ho
          subst ho
          obtain rfl := Option.some.inj hdt
          have i32 : (act.eval (.tmp (32 : Nat))) = enV x := hin ⟨0, .data⟩ (by simp) rfl 32 rfl
          exact plain_wp (by intro c h; cases h) (fun _ _ => trivial) (by simp only [execOp, i32, evalC, evalF, evalG]; simp [go_sem, c0, c1, c2, c3, d0, d1, d2]) ⟨_, rfl, rfl, Bl.refl _⟩
        · simp only [List.getElem?_toArray, List.getElem?_cons_zero, List.getElem?_cons_succ, Option.some.injEq] at ho
          subst ho
          obtain rfl := Option.some.inj hdt
          have i4 : act.eval (.tmp (4 : Nat)) = .pointer (some ⟨w.heap.size, 0, none⟩) := hfr 4 (by decide)
          exact plain_wp (by intro c h; cases h) (fun _ _ => trivial) (by simp only [execOp, i4, evalC, evalF, evalG]; simp [go_sem, c0, c1, c2, c3, d0, d1, d2]) ⟨_, rfl, rfl, Bl.refl _⟩
        · simp only [List.getElem?_toArray, List.getElem?_cons_zero, List.getElem?_cons_succ, Option.some.injEq] at ho
          subst ho
          obtain rfl := Option.some.inj hdt
          have i2 : act.eval (.tmp (2 : Nat)) = .int .i64 k := hfr 2 (by decide)
          exact plain_wp (by intro c h; cases h) (fun _ _ => trivial) (by simp only [execOp, i2, evalC, evalF, evalG]; simp [go_sem]) ⟨_, rfl, rfl, Bl.refl _⟩
        · simp only [List.getElem?_toArray, List.getElem?_cons_zero, List.getElem?_cons_succ, Option.some.injEq] at ho
          subst ho
          obtain rfl := Option.some.inj hdt
          have i2 : act.eval (.tmp (2 : Nat)) = .int .i64 k := hfr 2 (by decide)
          exact plain_wp (by intro c h; cases h) (fun _ _ => trivial) (by simp only [execOp, i2, evalC, evalF, evalG]; simp [go_sem]) ⟨_, rfl, rfl, Bl.refl _⟩
        · simp only [List.getElem?_toArray, List.getElem?_cons_zero, List.getElem?_cons_succ, Option.some.injEq] at ho
          subst ho
          obtain rfl := Option.some.inj hdt
          have i34 : (act.eval (.tmp (34 : Nat))) = mV n n p N cap := hin ⟨2, .data⟩ (by simp) rfl 34 rfl
          have i35 : (act.eval (.tmp (35 : Nat))) = .int .i64 k := hin ⟨3, .data⟩ (by simp) rfl 35 rfl
          have i36 : (act.eval (.tmp (36 : Nat))) = .int .i64 k := hin ⟨4, .data⟩ (by simp) rfl 36 rfl
          refine enter_wp 38 #[mV n n p N cap, .int .i64 k, .int .i64 k] (by intro c h; cases h) (fun _ _ => trivial) (by simp only [execOp, evalC, evalF, evalG, resolve, i34, i35, i36, List.map_toArray, List.map_cons, List.map_nil]; simp [invoke, egA, Result.andThen, go_sem]) (by intro h; cases h) (callsIn_wide.2 (mAtN n n p N cap g u (hg.later (hbw.trans hu)) k k hk hk)) ?_
          rintro e w' ⟨rfl, hb⟩
          exact ⟨_, rfl, _, rfl, rfl, hb⟩
        · simp only [List.getElem?_toArray, List.getElem?_cons_zero, List.getElem?_cons_succ, Option.some.injEq] at ho
          subst ho
          obtain rfl := Option.some.inj hdt
          have i33 : (act.eval (.tmp (33 : Nat))) = .iface 40 (enV x) := hin ⟨1, .data⟩ (by simp) rfl 33 rfl
          have i37 : (act.eval (.tmp (37 : Nat))) = enV (g k k) := hin ⟨5, .data⟩ (by simp) rfl 37 rfl
          have iv := Tryz.mDivN
          refine enter_wp 144 #[enV x, enV (g k k)] (by intro c h; cases h) (fun _ _ => trivial) (by simp only [execOp, evalC, evalF, evalG, resolve, i33, i37, List.map_toArray, List.map_cons, List.map_nil]; simp [invoke, iv, egV, Result.andThen, go_sem]) (by intro h; cases h) (callsIn_wide.2 (ediv_any x (g k k) u)) ?_
          rintro e w' ⟨rfl, hb⟩
          exact ⟨_, rfl, _, rfl, rfl, hb⟩
        · simp only [List.getElem?_toArray, List.getElem?_cons_zero, List.getElem?_cons_succ, Option.some.injEq] at ho
          subst ho
          cases hdt
      case still =>
        intro j o t act u0 u ho hdt hpu
        cases hpu
      case store =>
        intro o act u vs ho hsz hu hfr hin
        simp only [List.getElem?_toArray, List.getElem?_cons_zero, List.getElem?_cons_succ, Option.some.injEq] at ho
        subst ho
        have i7 : act.eval (.tmp (7 : Nat)) = .pointer (some ⟨w.heap.size + 1, 0, none⟩) := hfr 7 (by decide)
        obtain ⟨i38, k38⟩ : act.eval (.tmp (38 : Nat)) = vs 6 ∧ ((vs 6) = enV (divE x (g k k))) := hin 6 38 rfl rfl
        rw [k38] at i38
        obtain ⟨c0, c1, c2, c3, f0, f1, f2, f3, ltb⟩ := xz.later hu
        exact skip_wp (by intro c h; cases h) (fun _ _ => trivial) (by simp only [execOp, i7, i38]; simp [go_sem, c0, f0, c1, f1, c2, f2, c3, f3]) ⟨rfl, (xz.later hu).fill _, Bl.set4 (hbw.trans hu) (Nat.le_succ _) _ _ _ _⟩
      case fin =>
        intro vs vb u0 u hu hin hps
        have a0 := hin 0 32 rfl
        have a1 := hin 1 33 rfl
        have a2 := hin 2 34 rfl
        have a3 := hin 3 35 rfl
        have a4 := hin 4 36 rfl
        have a5 := hin 5 37 rfl
        have a6 := hin 6 38 rfl
        simp only [putL, Act.put, List.setIfInBounds_toArray, List.set_cons_zero, List.set_cons_succ, Nat.zero_add, Nat.reduceAdd, Nat.reduceBEq, Bool.or_false, Bool.or_true, Bool.false_or, Bool.true_or, Bool.false_eq_true, if_false, if_true, reduceIte, Nat.reduceEqDiff, beq_self_eq_true, Bool.or_self] at a0 a1 a2 a3 a4 a5 a6 ⊢
        rw [if_pos (by decide)] at hps
        simp only [a0, a1, a2, a3, a4, a5, a6]
        obtain ⟨bz, hbz⟩ := hps
        obtain ⟨c0, c1, c2, c3, f0, f1, f2, f3, ltb⟩ := bz
        go_wp2
        simp [bodyPost, results, Tryz.results37, go_sem, c0, c1, c2, c3]
        exact ⟨by rw [XV.out, if_neg hik]; simp, hbz⟩
theorem tRootN (n : Nat) (p : Option Addr) (N cap : Nat) (f : Nat → Nat → En) (w : World) (h : Mx 4 cellsN w n n p N cap f) :
    Calls Tryz.prog 12 #[mV n n p N cap] w fun e w' => ∃ p' cap', e = .returned (.tuple #[mV n n p' N cap', .bool true]) ∧ (Mx 4 cellsN w' n n p' N cap' (triT (rootVN f) (wholeN 0) n n) ∧ Fresh w.heap.size (.slice p' N cap')) ∧ Bl w w' := by
  have hsq : sqB n n N = true := by unfold sqB; rw [h.fit]; simp
  obtain ⟨W, hW⟩ : ∃ W, W = (w.alloc (.cells #[.int .i64 n, .int .i64 n, .slice p N cap] 36)).alloc (.cells #[.int .i64 0, .int .i64 0, .slice none 0 0] 36) := ⟨_, rfl⟩
  have b0 : Bl w W := by rw [hW]; exact ((Bl.refl _).alloc _).alloc _
  have m0 : MBox W w.heap.size n n p N cap := by rw [hW]; exact (MBox.new w _ _ _ _ _ _).later ((Bl.refl _).alloc _)
  have x0 : MBox W (w.heap.size + 1) 0 0 none 0 0 := by rw [hW]; have := MBox.new (w.alloc (.cells #[.int .i64 n, .int .i64 n, .slice p N cap] 36)) 0 0 none 0 0 36; rw [World.size_alloc] at this; exact this
  have hs : W.heap.size = w.heap.size + 1 + 1 := by rw [hW]; simp
  have FI := hideP (fun u (hu : Bl W u) => tTriangleN 37 w.heap.size (enters_of Tryz.func37 (by kernel_rfl) rfl) (rootVN f) n N h.1.r1 h.1.r2 h.2.1 u
    (fun g p' cap' i k v hki hi hv hg => tRoot1N n p N cap f p' cap' g v (h.later (b0.trans (hu.trans hv))) _ (m0.later (hu.trans hv)) hg i k hi hki))
  have HD := hideP h
  have HW := hideP hW
  clear hW h
  go_enter Tryz.func12, Tryz.ntmps12
  go_wp2_with fail
  rw [← HW.out]
  refine (tSquareN _ _ _ _ _ _).mono ?_
  rintro e w1 ⟨rfl, h1⟩
  rw [hsq]
  obtain ⟨c0, c1, c2, f0, f1, f2, lt⟩ := m0.later h1
  go_wp2_with fail
  refine (FI.out _ h1).mono ?_
  rintro e w2 ⟨p', cap', rfl, ⟨hR, hF⟩, h2⟩
  have HR := hideP hR
  have HF := hideP (show Fresh (w.heap.size + 1 + 1) (.slice p' N cap') from fun g hg => by have := hF g hg; have := h1.size; omega)
  clear hR hF FI c0 c1 c2 f0 f1 f2
  obtain ⟨c0, c1, c2, f0, f1, f2, lt2⟩ := x0.later (h1.trans h2)
  go_wp2
  simp [bodyPost, results, Tryz.results12, go_sem, c0, c1, c2]
  exact ⟨p', cap', ⟨rfl, rfl⟩, ⟨mx_put7 HR.out HF.out _ _ _, fun g hg => by have := HF.out g hg; omega⟩, Bl.put3 ((b0.trans h1).trans h2) (Nat.le_succ _) _ _ _⟩
theorem tRootN_no (r c : Int) (p : Option Addr) (n cap : Nat) (w : World) (hsq : sqB r c n = false) :
    Calls Tryz.prog 12 #[mV r c p n cap] w fun e w' => e = .returned (.tuple #[mV 0 0 none 0 0, .bool false]) ∧ Bl w w' := by
  obtain ⟨W, hW⟩ : ∃ W, W = (w.alloc (.cells #[.int .i64 r, .int .i64 c, .slice p n cap] 36)).alloc (.cells #[.int .i64 0, .int .i64 0, .slice none 0 0] 36) := ⟨_, rfl⟩
  have b0 : Bl w W := by rw [hW]; exact ((Bl.refl _).alloc _).alloc _
  have x0 : MBox W (w.heap.size + 1) 0 0 none 0 0 := by rw [hW]; have := MBox.new (w.alloc (.cells #[.int .i64 r, .int .i64 c, .slice p n cap] 36)) 0 0 none 0 0 36; rw [World.size_alloc] at this; exact this
  have HW := hideP hW
  clear hW
  go_enter Tryz.func12, Tryz.ntmps12
  go_wp2_with fail
  rw [← HW.out]
  refine (tSquareN _ _ _ _ _ _).mono ?_
  rintro e w1 ⟨rfl, h1⟩
  rw [hsq]
  obtain ⟨c0, c1, c2, f0, f1, f2, lt2⟩ := x0.later h1
  go_wp2
  simp [bodyPost, results, Tryz.results12, go_sem, c0, c1, c2]
  exact Bl.put3 (b0.trans h1) (Nat.le_succ _) _ _ _
end Go.Proofs.YtbfdkahbnfpabaaGreat

/- Roots of squares of whole numbers, enclosed; matrices of whole numbers that came in as rows (layer 7). -/
namespace Go.Proofs.YtbfdkahbnfpabaaGreat
open Go.RowKit
set_option linter.unusedSimpArgs false
set_option linter.unusedVariables false

theorem encl_enq {a : En} {n d : Int} (h : Enq a n d) (hn : Wh n) (hd : 1 ≤ d ∧ d ≤ 1073741824) (hb : a.bad = false) : enclB a n d = true := by
  rcases h with rfl | ⟨hf, h1, h2⟩
  · cases hb
  · have r1 : rightB n = true := by unfold rightB; simp; have := hn.1; have := hn.2; omega
    have r2 : rightB d = true := by unfold rightB; simp; omega
    unfold enclB withinB
    rw [hf, r1, r2]
    simp [h1, h2, hd.1]
theorem rootVN_G : rootVN = rootVG subE divE rootE dotN := rfl
/-- The enclosed root of a square encloses it. -/
theorem root_encl {n : Nat} {s : Nat → Nat → Int} (hn : n ≤ 16) (hs : Sm2 100 n n s) (hl : Low 0 s) (hd : ∀ k, k < n → 0 < s k k) {i k : Nat} (hi : i < n) (hk : k < n)
    (hb : (triT (rootVN (fun i k => wholeN (sqI n s i k))) (wholeN 0) n n i k).bad = false) : enclB (triT (rootVN (fun i k => wholeN (sqI n s i k))) (wholeN 0) n n i k) (s i k) 1 = true := by
  have hw : Wh (s i k) := by have := hs i k hi hk; exact ⟨by omega, by omega⟩
  have hsq : ∀ i k, i < n → k < n → EncF (wholeN (sqI n s i k)) (itF (sqI n s i k)) := fun i k hi hk => by
    have hb : Wh (sqI n s i k) := by
      have := mulI_bound (A := 100) (B := 100) (R := n) (M := n) (D := n) (a := s) (b := fun i k => s k i) (by omega) (by omega) hs (fun i k hi hk => hs k i hk hi) hi hk n (Nat.le_refl _)
      exact ⟨by unfold sqI; omega, by unfold sqI; omega⟩
    rw [← whole_it hb]
    exact encF_whole _
  have e := rootTo_enc (n := n) (p := fun i k => wholeN (sqI n s i k)) (q := fun i k => itF (sqI n s i k)) (zn := wholeN 0) (zf := itF 0) (encF_whole 0) hsq n (Nat.le_refl _) i k hi hk
  rw [show (fun i k => itF (sqI n s i k)) = (fun i k => itF (mulI n s (fun i k => s k i) i k)) from rfl, rootTo_all hn hs hl hd hi hk, ← triT_root subE divE rootE dotN (wholeN 0) _ n n (Nat.le_refl _) i k hi, ← rootVN_G] at e
  exact encl_enq (e (fine_it hw)) hw ⟨by omega, by omega⟩ hb
theorem whole7F_call (R C : Nat) (p : Option Addr) (n cap : Nat) (g : Nat → Nat → Int) (w : World) (hr : Rq 1 cI w (.slice p n cap) (mk R C g)) (hd : Dim R C) (hn : n = R * C) (hs : ∀ i k, i < R → k < C → Wh (g i k)) :
    Calls Tryz.prog 8 #[.int .i64 R, .int .i64 C, .slice p n cap] w fun e w' => ∃ p' cap', e = .returned (.tuple #[mV R C p' n cap', .bool true]) ∧ MxI w' R C p' n cap' g ∧ Bl w w' := by
  refine (mWholeF R C p n cap _ w hr (fitB_dim hd hn) (by rw [mk_len, hn])).mono ?_
  rintro e w' ⟨p', cap', rfl, hR, hb⟩
  refine ⟨p', cap', rfl, ⟨hd, hn, ?_⟩, hb⟩
  rw [mk_map, mk_congr (g := fun i k => itF (g i k)) fun i k hi hk => whole_it (hs i k hi hk)] at hR
  exact hR.q
theorem whole7N_call (R C : Nat) (p : Option Addr) (n cap : Nat) (g : Nat → Nat → Int) (w : World) (hr : Rq 1 cI w (.slice p n cap) (mk R C g)) (hd : Dim R C) (hn : n = R * C) :
    Calls Tryz.prog 11 #[.int .i64 R, .int .i64 C, .slice p n cap] w fun e w' => ∃ p' cap', e = .returned (.tuple #[mV R C p' n cap', .bool true]) ∧ Mx 4 cellsN w' R C p' n cap' (fun i k => wholeN (g i k)) ∧ Bl w w' := by
  refine (mWholeN R C p n cap _ w hr (fitB_dim hd hn) (by rw [mk_len, hn])).mono ?_
  rintro e w' ⟨p', cap', rfl, hR, hb⟩
  refine ⟨p', cap', rfl, ⟨hd, hn, ?_⟩, hb⟩
  rw [mk_map] at hR
  exact hR.q
/-- The cells of a matrix's numbers that came in as a row of whole ones. -/
theorem cells7 {w : World} {p : Option Addr} {n cap R C : Nat} {g : Nat → Nat → Int} (h : Rq 1 cI w (.slice p n cap) (mk R C g)) (h0 : 0 < R) (h1 : 0 < C) : ∃ b o, p = some ⟨b, o, none⟩ ∧ ∀ i k, i < R → k < C → ∀ u, Bl w u → u.cell? ⟨b, o + (i * C + k), none⟩ = some (.int .i64 (g i k)) := by
  have hz := mk_get g h0 h1
  rcases h with ⟨_, _, _, hn, _⟩ | ⟨b, o, cc, e, _, hlt, HX⟩
  · rw [hn] at hz; simp at hz
  · cases e
    exact ⟨b, o, rfl, fun i k hi hk u hu => (bl_cell hu _ _ hlt).trans (cellI HX (mk_get g hi hk) (wr := w))⟩
end Go.Proofs.YtbfdkahbnfpabaaGreat
