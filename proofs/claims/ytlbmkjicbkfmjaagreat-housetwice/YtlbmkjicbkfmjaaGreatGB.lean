/- Roots of squares, and what is solved, of lower triangles (layer 7). Mathematics alone. -/
import Derived.Test.YtlbmkjicbkfmjaaGreatMa0
import Derived.Test.YtlbmkjicbkfmjaaGreatGA
import Derived.RangeFuncNested
import Derived.RangeFuncBound
import Derived.RangeFuncCalls
import Derived.RangeFuncLeaves
import Derived.Shelf.Abstract
import Derived.Shelf.RegionOpen
import Derived.OwnWalkIn
import Derived.TacticsInMore
import Derived.LoopNIn
import Derived.LoopIn
import Derived.Test.YtlbmkjicbkfmjaaGreatTr0
import Derived.Test.YtlbmkjicbkfmjaaGreatFr6
import Derived.Test.YtlbmkjicbkfmjaaGreatReg
import Derived.Laws.EntriesVeiled
import Derived.Test.YtlbmkjicbkfmjaaGreatVeAI
import Derived.Test.YtlbmkjicbkfmjaaGreatWlr
/- Contracts of mat's Right, New, Whole, of fractions (layer 6). Written by genMa.py. -/
namespace Go.Proofs.YtlbmkjicbkfmjaaGreat
open Go.RowKit
set_option linter.unusedSimpArgs false
set_option linter.unusedVariables false

theorem mRightF (r c : Int) (p : Option Addr) (n cap : Nat) (w : World) :
    Calls Tryz.prog 99 #[mV r c p n cap] w fun e w' => e = .returned (.bool (fitB r c n)) ∧ Bl w w' := by
  go_enter Tryz.func99, Tryz.ntmps99
  go_wp2_with fail
  refine (fits_any _ _ _ _).mono ?_
  rintro e w1 ⟨rfl, rfl⟩
  go_wp2
  go_ret
  exact ⟨rfl, (Bl.refl _).alloc _⟩
theorem mNewF_no (r c : Int) (p : Option Addr) (n cap : Nat) (w : World) (h : fitB r c n = false) :
    Calls Tryz.prog 124 #[.int .i64 r, .int .i64 c, .slice p n cap] w fun e w' => e = .returned (.tuple #[mV 0 0 none 0 0, .bool false]) ∧ Bl w w' := by
  go_enter Tryz.func124, Tryz.ntmps124
  go_wp2_with fail
  refine (fits_any _ _ _ _).mono ?_
  rintro e w1 ⟨rfl, rfl⟩
  rw [h]
  go_wp2
  simp [bodyPost, results, Tryz.results124, go_sem]
  exact (Bl.refl _).alloc _
theorem mNewF (r c : Int) (p : Option Addr) (n cap : Nat) (xs : List Fr) (w : World) (hr : Rq 3 cellsF w (.slice p n cap) xs) (h : fitB r c n = true) (hn : xs.length = n) :
    Calls Tryz.prog 124 #[.int .i64 r, .int .i64 c, .slice p n cap] w fun e w' => ∃ p' cap', e = .returned (.tuple #[mV r c p' n cap', .bool true]) ∧ (Rw 3 cellsF w' (.slice p' n cap') xs ∧ Fresh w.heap.size (.slice p' n cap')) ∧ Bl w w' := by
  have hl : n ≤ 1000000 := by obtain ⟨R, C, _, _, hd, rfl⟩ := fitB_nat h; have := hd.lt; omega
  obtain ⟨W, hW⟩ : ∃ W, W = w.alloc (.cells #[.int .i64 0, .int .i64 0, .slice none 0 0] 62) := ⟨_, rfl⟩
  have b0 : Bl w W := by rw [hW]; exact (Bl.refl _).alloc _
  have x0 : MBox W w.heap.size 0 0 none 0 0 := by rw [hW]; exact MBox.new w 0 0 none 0 0 _
  have hsz : W.heap.size = w.heap.size + 1 := by rw [hW]; simp
  have CL := hideP (vCloneF (.slice p n cap) xs W (hr.later b0) (by omega))
  have HW := hideP hW
  clear hW hr
  go_enter Tryz.func124, Tryz.ntmps124
  go_wp2_with fail
  rw [← HW.out]
  refine (fits_any _ _ _ _).mono ?_
  rintro e w1 ⟨rfl, rfl⟩
  rw [h]
  go_wp2_with fail
  refine CL.out.mono ?_
  rintro e w2 ⟨u, rfl, hR, hF, h2⟩
  obtain ⟨p', cap', rfl, _, _⟩ := hR.cut
  rw [hn] at hR hF ⊢
  have HR := hideP hR
  have HF := hideP hF
  obtain ⟨c0, c1, c2, f0, f1, f2, lt⟩ := x0.later h2
  clear hR hF CL
  go_wp2
  simp [bodyPost, results, Tryz.results124, go_sem, c0, c1, c2]
  refine ⟨p', cap', ⟨rfl, rfl⟩, ⟨((HR.out.set _ ?_).set _ ?_).set _ ?_, fun g hg => ?_⟩, Bl.put3 (b0.trans h2) (Nat.le_refl _) _ _ _⟩
  · exact fun g hg => by have := HF.out g hg; show w.heap.size + 1 ≤ g; omega
  · exact fun g hg => by have := HF.out g hg; show w.heap.size + 1 ≤ g; omega
  · exact fun g hg => by have := HF.out g hg; show w.heap.size + 1 ≤ g; omega
  · have := HF.out g hg; omega
theorem mWholeF_no (r c : Int) (p : Option Addr) (n cap : Nat) (w : World) (h : fitB r c n = false) :
    Calls Tryz.prog 27 #[.int .i64 r, .int .i64 c, .slice p n cap] w fun e w' => e = .returned (.tuple #[mV 0 0 none 0 0, .bool false]) ∧ Bl w w' := by
  go_enter Tryz.func27, Tryz.ntmps27
  go_wp2_with fail
  refine (fits_any _ _ _ _).mono ?_
  rintro e w1 ⟨rfl, rfl⟩
  rw [h]
  go_wp2
  simp [bodyPost, results, Tryz.results27, go_sem]
  exact (Bl.refl _).alloc _
theorem mWholeF (r c : Int) (p : Option Addr) (n cap : Nat) (ns : List Int) (w : World) (hr : Rq 1 (fun n => [.int .i64 n]) w (.slice p n cap) ns) (h : fitB r c n = true) (hn : ns.length = n) :
    Calls Tryz.prog 27 #[.int .i64 r, .int .i64 c, .slice p n cap] w fun e w' => ∃ p' cap', e = .returned (.tuple #[mV r c p' n cap', .bool true]) ∧ Rw 3 cellsF w' (.slice p' n cap') (ns.map wholeF) ∧ Bl w w' := by
  have hl : n ≤ 1000000 := by obtain ⟨R, C, _, _, hd, rfl⟩ := fitB_nat h; have := hd.lt; omega
  obtain ⟨W, hW⟩ : ∃ W, W = w.alloc (.cells #[.int .i64 0, .int .i64 0, .slice none 0 0] 62) := ⟨_, rfl⟩
  have b0 : Bl w W := by rw [hW]; exact (Bl.refl _).alloc _
  have x0 : MBox W w.heap.size 0 0 none 0 0 := by rw [hW]; exact MBox.new w 0 0 none 0 0 _
  have hsz : W.heap.size = w.heap.size + 1 := by rw [hW]; simp
  have CL := hideP (vWholeF' (.slice p n cap) ns W (hr.later b0) (by omega))
  have HW := hideP hW
  clear hW hr
  go_enter Tryz.func27, Tryz.ntmps27
  go_wp2_with fail
  rw [← HW.out]
  refine (fits_any _ _ _ _).mono ?_
  rintro e w1 ⟨rfl, rfl⟩
  rw [h]
  go_wp2_with fail
  refine CL.out.mono ?_
  rintro e w2 ⟨u, rfl, hR, hF, h2⟩
  obtain ⟨p', cap', rfl, _, _⟩ := hR.cut
  rw [List.length_map, hn] at hR hF ⊢
  have HR := hideP hR
  have HF := hideP hF
  obtain ⟨c0, c1, c2, f0, f1, f2, lt⟩ := x0.later h2
  clear hR hF CL
  go_wp2
  simp [bodyPost, results, Tryz.results27, go_sem, c0, c1, c2]
  refine ⟨p', cap', ⟨rfl, rfl⟩, ((HR.out.set _ ?_).set _ ?_).set _ ?_, Bl.put3 (b0.trans h2) (Nat.le_refl _) _ _ _⟩
  · exact fun g hg => by have := HF.out g hg; show w.heap.size + 1 ≤ g; omega
  · exact fun g hg => by have := HF.out g hg; show w.heap.size + 1 ≤ g; omega
  · exact fun g hg => by have := HF.out g hg; show w.heap.size + 1 ≤ g; omega
end Go.Proofs.YtlbmkjicbkfmjaaGreat

/- Contracts of mat's At, Row, of fractions (layer 6). Written by genMa.py. -/
namespace Go.Proofs.YtlbmkjicbkfmjaaGreat
open Go.RowKit
set_option linter.unusedSimpArgs false
set_option linter.unusedVariables false

theorem Tryz.info_MF : (Tryz.prog.info? 62).map (fun i => (i.zero, i.size, i.bytes)) = some (some (.agg #[.int .i64 0, .int .i64 0, .slice none 0 0]), 3, 40) := by kernel_rfl
theorem mAtF (R C : Nat) (p : Option Addr) (n cap : Nat) (f : Nat → Nat → Fr) (w : World) (h : Mx 3 cellsF w R C p n cap f) (i k : Nat) (hi : i < R) (hk : k < C) :
    Calls Tryz.prog 47 #[mV R C p n cap, .int .i64 i, .int .i64 k] w fun e w' => e = .returned (frV (f i k)) ∧ Bl w w' := by
  have hfit := h.fit
  obtain ⟨b, o, rfl, hc, hb, HC⟩ := h.cells
  obtain ⟨hd, hn, -⟩ := h
  have CX := HC i k hi hk
  clear HC
  have ha1 := amongB_t hi
  have ha2 := amongB_t hk
  obtain ⟨a, q, e1, e2, hq1, hq3, hq5, hq6⟩ := place hd hi hk
  rw [← e2] at CX
  rw [← hn] at hq5
  clear e1 e2
  generalize hx : f i k = x at *
  have y0 : ∀ u, Bl w u → u.cell? ⟨b, o + q * 3, none⟩ = some (.int .i64 x.n) := fun u hu => (bl_cell hu _ _ hb).trans (CX 0 _ rfl)
  have y1 : ∀ u, Bl w u → u.cell? ⟨b, o + q * 3 + 1, none⟩ = some (.int .i64 x.d) := fun u hu => (bl_cell hu _ _ hb).trans (CX 1 _ rfl)
  have y2 : ∀ u, Bl w u → u.cell? ⟨b, o + q * 3 + 2, none⟩ = some (.bool x.bad) := fun u hu => (bl_cell hu _ _ hb).trans (CX 2 _ rfl)
  clear CX hx
  have h16 := hd.lt
  rw [← hn] at h16
  clear hn
  obtain ⟨W, hW⟩ : ∃ W, W = (w.alloc (.cells #[.int .i64 R, .int .i64 C, .slice (some ⟨b, o, none⟩) n cap] 62)).alloc (.cells #[.int .i64 0, .int .i64 0, .bool false] 66) := ⟨_, rfl⟩
  have b0 : Bl w W := by rw [hW]; exact ((Bl.refl _).alloc _).alloc _
  have m0 : MBox W w.heap.size R C (some ⟨b, o, none⟩) n cap := by rw [hW]; exact (MBox.new w _ _ _ _ _ _).later ((Bl.refl _).alloc _)
  have x0 : FBox W (w.heap.size + 1) zeroR := by rw [hW]; have := FBox.new (w.alloc (.cells #[.int .i64 R, .int .i64 C, .slice (some ⟨b, o, none⟩) n cap] 62)) zeroR 66; rw [World.size_alloc] at this; exact this
  have HW := hideP hW
  clear hW
  go_enter Tryz.func47, Tryz.ntmps47
  go_wp2_with fail
  rw [← HW.out]
  refine (mRightF _ _ _ _ _ _).mono ?_
  rintro e w1 ⟨rfl, h1⟩
  rw [hfit]
  obtain ⟨c0, c1, c2, f0, f1, f2, lt⟩ := m0.later h1
  go_wp2_with fail
  refine (among_any _ _ _).mono ?_
  rintro e w2 ⟨rfl, rfl⟩
  rw [ha1]
  go_wp2_with fail
  refine (among_any _ _ _).mono ?_
  rintro e w3 ⟨rfl, rfl⟩
  rw [ha2]
  have z0 := y0 _ (b0.trans h1)
  have z1 := y1 _ (b0.trans h1)
  have z2 := y2 _ (b0.trans h1)
  obtain ⟨d0, d1, d2, g0, g1, g2, lt2⟩ := x0.later h1
  clear y0 y1 y2
  go_wp2
  simp [bodyPost, results, Tryz.results47, go_sem, d0, d1, d2]
  exact Bl.set3 (b0.trans h1) (Nat.le_succ _) _ _ _
theorem mAtF_no (R C : Nat) (p : Option Addr) (n cap : Nat) (w : World) (hfit : fitB R C n = true) (i k : Int) (h : ¬ ((0 ≤ i ∧ i < R) ∧ (0 ≤ k ∧ k < C))) :
    Calls Tryz.prog 47 #[mV R C p n cap, .int .i64 i, .int .i64 k] w fun e w' => e = .returned (frV zeroR) ∧ Bl w w' := by
  obtain ⟨W, hW⟩ : ∃ W, W = (w.alloc (.cells #[.int .i64 R, .int .i64 C, .slice p n cap] 62)).alloc (.cells #[.int .i64 0, .int .i64 0, .bool false] 66) := ⟨_, rfl⟩
  have b0 : Bl w W := by rw [hW]; exact ((Bl.refl _).alloc _).alloc _
  have m0 : MBox W w.heap.size R C p n cap := by rw [hW]; exact (MBox.new w _ _ _ _ _ _).later ((Bl.refl _).alloc _)
  have x0 : FBox W (w.heap.size + 1) zeroR := by rw [hW]; have := FBox.new (w.alloc (.cells #[.int .i64 R, .int .i64 C, .slice p n cap] 62)) zeroR 66; rw [World.size_alloc] at this; exact this
  have HW := hideP hW
  clear hW
  by_cases hi : 0 ≤ i ∧ i < R
  · have ha1 : amongB i R = true := decide_eq_true hi
    have ha2 : amongB k C = false := amongB_f (fun hk => h ⟨hi, hk⟩)
    go_enter Tryz.func47, Tryz.ntmps47
    go_wp2_with fail
    rw [← HW.out]
    refine (mRightF _ _ _ _ _ _).mono ?_
    rintro e w1 ⟨rfl, h1⟩
    rw [hfit]
    obtain ⟨c0, c1, c2, f0, f1, f2, lt⟩ := m0.later h1
    go_wp2_with fail
    refine (among_any _ _ _).mono ?_
    rintro e w2 ⟨rfl, rfl⟩
    rw [ha1]
    go_wp2_with fail
    refine (among_any _ _ _).mono ?_
    rintro e w3 ⟨rfl, rfl⟩
    rw [ha2]
    obtain ⟨d0, d1, d2, g0, g1, g2, lt2⟩ := x0.later (h1.trans ((Bl.refl _).alloc (.cells #[.int .i64 0, .int .i64 0, .bool false] 66)))
    go_wp2
    simp [bodyPost, results, Tryz.results47, go_sem, d0, d1, d2]
    exact ⟨by decide, Bl.set3 ((b0.trans h1).alloc _) (Nat.le_succ _) _ _ _⟩
  · have ha1 : amongB i R = false := amongB_f hi
    go_enter Tryz.func47, Tryz.ntmps47
    go_wp2_with fail
    rw [← HW.out]
    refine (mRightF _ _ _ _ _ _).mono ?_
    rintro e w1 ⟨rfl, h1⟩
    rw [hfit]
    obtain ⟨c0, c1, c2, f0, f1, f2, lt⟩ := m0.later h1
    go_wp2_with fail
    refine (among_any _ _ _).mono ?_
    rintro e w2 ⟨rfl, rfl⟩
    rw [ha1]
    obtain ⟨d0, d1, d2, g0, g1, g2, lt2⟩ := x0.later (h1.trans ((Bl.refl _).alloc (.cells #[.int .i64 0, .int .i64 0, .bool false] 66)))
    go_wp2
    simp [bodyPost, results, Tryz.results47, go_sem, d0, d1, d2]
    exact ⟨by decide, Bl.set3 ((b0.trans h1).alloc _) (Nat.le_succ _) _ _ _⟩
/-- A part of a row, as the program takes it. -/
theorem Tryz.partF (b o n cap lo hi : Nat) (w : World) (h1 : lo ≤ hi) (h2 : hi ≤ n) (h3 : n ≤ cap) (h4 : lo < cap) : (Instr.sliceAt 60 (.slice (some ⟨b, o, none⟩) n cap) (some (.int .i64 lo)) (some (.int .i64 hi)) none).run Tryz.prog w = .ok (.slice (some ⟨b, o + lo * 3, none⟩) (hi - lo) (cap - lo)) w := by
  have hu : Tryz.prog.underlying 60 = some (.slice (Tryz.prog.elem 60)) := by kernel_rfl
  obtain ⟨i0, hi0, hz0, hz1, hz2⟩ := info_parts Tryz.info_F
  have he : Tryz.prog.elem 60 = 66 := by kernel_rfl
  rw [run_sliceAt_slice (h := hu), run_slice_lh (ht := hu) (h0 := by omega) (h1 := by omega) (h2 := by omega), he]
  have hcm : ¬ cap = lo := by omega
  have hcm' : ¬ cap ≤ lo := by omega
  simp [sizeOf, typeInfo, hi0, sliced, Result.andThen, hz1, hcm, hcm', Addr.add]
theorem mRowF (R C : Nat) (p : Option Addr) (n cap : Nat) (f : Nat → Nat → Fr) (w : World) (h : Mx 3 cellsF w R C p n cap f) (i : Nat) (hi : i < R) :
    Calls Tryz.prog 154 #[mV R C p n cap, .int .i64 i] w fun e w' => ∃ p' cap', e = .returned (.slice p' C cap') ∧ (Rw 3 cellsF w' (.slice p' C cap') (rowM C f i) ∧ Fresh w.heap.size (.slice p' C cap') ∧ C ≤ cap') ∧ Bl w w' := by
  have hfit := h.fit
  obtain ⟨b, o, rfl, hc, hb, -⟩ := h.cells
  obtain ⟨hd, hn, hR⟩ := h
  have ha1 := amongB_t hi
  have h16 := hd.lt
  have hi16 : i < 16 := Nat.lt_of_lt_of_le hi hd.r2
  have hC16 := hd.c2
  have hC1 := hd.c1
  obtain ⟨a, e, e1, e2, hq1, hq3, hq5, hq6, hq7⟩ := places hd hi
  have hpt : Rq 3 cellsF w (.slice (some ⟨b, o + a * 3, none⟩) C (cap - a)) (rowM C f i) := by
    have := hR.part (lo := a) (m := C) (by rw [mk_len, hn]) (by omega) (by omega) (cap - a) (by omega)
    rw [e1, mk_row f hi] at this
    rw [e1]
    exact this
  have sl := fun u => Tryz.partF b o n cap a e u (by omega) (by omega) hc (by omega)
  rw [show e - a = C by omega] at sl
  have HP := hideP hpt
  rw [← hn] at h16 hq5
  clear hR hpt e1 e2 hn
  obtain ⟨W, hW⟩ : ∃ W, W = (w.alloc (.cells #[.int .i64 R, .int .i64 C, .slice (some ⟨b, o, none⟩) n cap] 62)) := ⟨_, rfl⟩
  have b0 : Bl w W := by rw [hW]; exact (Bl.refl _).alloc _
  have m0 : MBox W w.heap.size R C (some ⟨b, o, none⟩) n cap := by rw [hW]; exact MBox.new w _ _ _ _ _ _
  have HW := hideP hW
  clear hW
  go_enter Tryz.func154, Tryz.ntmps154
  go_wp2_with fail
  rw [← HW.out]
  refine (mRightF _ _ _ _ _ _).mono ?_
  rintro e w1 ⟨rfl, h1⟩
  rw [hfit]
  obtain ⟨c0, c1, c2, f0, f1, f2, lt⟩ := m0.later h1
  go_wp2_with fail
  refine (among_any _ _ _).mono ?_
  rintro e w2 ⟨rfl, rfl⟩
  rw [ha1]
  go_wp2_with fail
  refine (vCloneF _ (rowM C f i) _ (HP.out.later (b0.trans h1)) (by rw [rowM_len]; omega)).mono ?_
  rintro e w3 ⟨u, rfl, hR, hF, h3⟩
  obtain ⟨p', cap', rfl, hcl, _⟩ := hR.cut
  rw [rowM_len] at hR hF hcl ⊢
  have HR := hideP hR
  have HF := hideP hF
  clear hR hF
  go_wp2
  go_ret
  exact ⟨p', cap', rfl, ⟨HR.out, fun g hg => by have := HF.out g hg; have := (b0.trans h1).size; omega, hcl⟩, (b0.trans h1).trans h3⟩
theorem mRowF_no (R C : Nat) (p : Option Addr) (n cap : Nat) (w : World) (hfit : fitB R C n = true) (i : Int) (h : ¬ (0 ≤ i ∧ i < R)) :
    Calls Tryz.prog 154 #[mV R C p n cap, .int .i64 i] w fun e w' => e = .returned (.slice none 0 0) ∧ Bl w w' := by
  have ha1 : amongB i R = false := amongB_f h
  obtain ⟨W, hW⟩ : ∃ W, W = (w.alloc (.cells #[.int .i64 R, .int .i64 C, .slice p n cap] 62)) := ⟨_, rfl⟩
  have b0 : Bl w W := by rw [hW]; exact (Bl.refl _).alloc _
  have m0 : MBox W w.heap.size R C p n cap := by rw [hW]; exact MBox.new w _ _ _ _ _ _
  have HW := hideP hW
  clear hW
  go_enter Tryz.func154, Tryz.ntmps154
  go_wp2_with fail
  rw [← HW.out]
  refine (mRightF _ _ _ _ _ _).mono ?_
  rintro e w1 ⟨rfl, h1⟩
  rw [hfit]
  obtain ⟨c0, c1, c2, f0, f1, f2, lt⟩ := m0.later h1
  go_wp2_with fail
  refine (among_any _ _ _).mono ?_
  rintro e w2 ⟨rfl, rfl⟩
  rw [ha1]
  go_wp2
  go_ret
  exact ⟨rfl, b0.trans h1⟩
end Go.Proofs.YtlbmkjicbkfmjaaGreat

/- Contracts of mat's filled, Turn, of fractions (layer 6). Written by genMa.py. -/
namespace Go.Proofs.YtlbmkjicbkfmjaaGreat
open Go.RowKit
set_option linter.unusedSimpArgs false
set_option linter.unusedVariables false

set_option maxHeartbeats 1000000 in
/-- A matrix that is filled by what a function tells of each place. -/
theorem mFilledF (G mb : Nat) (eg : ∀ (args : Array Value) (w : World), (callFunc G args).run Tryz.prog w = .ok (.enter G args) w) (f : Nat → Nat → Fr) (R C n : Nat) (hd : Dim R C) (hn : n = R * C) (w : World)
    (hG : ∀ i k u, i < R → k < C → Bl w u → Calls Tryz.prog G #[.int .i64 i, .int .i64 k, .pointer (some ⟨mb, 0, none⟩)] u fun e w' => e = .returned (frV (f i k)) ∧ Bl u w') :
    Calls Tryz.prog 155 #[.int .i64 R, .int .i64 C, .func (.func G) #[] #[.pointer (some ⟨mb, 0, none⟩)]] w fun e w' => ∃ p' cap', e = .returned (mV R C p' n cap') ∧ (Rw 3 cellsF w' (.slice p' n cap') (mk R C f) ∧ Fresh w.heap.size (.slice p' n cap')) ∧ Bl w w' := by
  obtain ⟨i0, hi, hz0, hz1, hz2⟩ := info_parts Tryz.info_F
  have hRC : (R : Int) * (C : Int) = n := by rw [hn]; simp
  have hn256 : n ≤ 256 := by rw [hn]; exact hd.lt
  have hR16 := hd.r2
  have hC16 := hd.c2
  have HG := hideP hG
  have HN := hideP hn
  clear hG hn
  have z0 := MBox.new w 0 0 none 0 0 62
  go_enter Tryz.func155, Tryz.ntmps155
  go_wp2_with (at_make; refine wpList_make_own _ rfl _ _ 60 rfl (w.heap.size + 1) 66 i0 (.agg #[.int .i64 0, .int .i64 0, .bool false]) 3 Tryz.underlying60 hi hz0 hz1 .i64 .i64 _ n rfl rfl (by simp) (by rw [hz2]; omega) (by unfold maxLen; omega) (by simp) ?_; intro w0 hown0 hgrow0)
  have hB0 : Bl w w0 := ((Bl.refl w).alloc _).grown hgrow0 (by simp) (fun k e => by cases e)
  have hz : MBox w0 w.heap.size 0 0 none 0 0 := mbox_block z0 (hgrow0.block _ z0.lt nofun) hgrow0.size
  clear hgrow0 z0
  go_loopw [7, 15] (fun v i wr => ∃ j : Nat, i = .int .i64 j ∧ j ≤ R ∧ wr.ownsRow (w.heap.size + 1) 66 3 v (mk j C f).length ((mk j C f).flatMap cellsF) ∧ MBox wr w.heap.size 0 0 none 0 0 ∧ Bl w wr) (fun _ i _ => R - (intOf i).toNat)
  case atStart => exact ⟨0, rfl, Nat.zero_le _, by rw [World.size_alloc] at hown0; exact hown0, hz, hB0⟩
  case round =>
    clear hown0 hz hB0
    obtain ⟨j, rfl, hj, hown, hz, hB⟩ := hrel
    by_cases hlt : j < R
    · go_wp2_with fail
      go_loopw [7, 19] (fun v i wr => ∃ k : Nat, i = .int .i64 k ∧ k ≤ C ∧ wr.ownsRow (w.heap.size + 1) 66 3 v (mk j C f ++ rowM k f j).length ((mk j C f ++ rowM k f j).flatMap cellsF) ∧ MBox wr w.heap.size 0 0 none 0 0 ∧ Bl w wr) (fun _ i _ => C - (intOf i).toNat)
      case atStart => exact ⟨0, rfl, Nat.zero_le _, by simpa [rowM] using hown, hz, hB⟩
      case round =>
        clear hown hz hB
        obtain ⟨k, rfl, hk, hown, hz, hB⟩ := hrel
        by_cases hlt2 : k < C
        · have HT := hideP (show mk j C f ++ rowM (k + 1) f j = (mk j C f ++ rowM k f j) ++ [f j k] by rw [rowM_succ, List.append_assoc])
          have hlen : (mk j C f ++ rowM k f j).length ≤ 256 := by
            have h1 : j * C + k < R * C := mk_idx hlt hlt2
            have := HN.out
            rw [List.length_append, mk_len, rowM_len]
            omega
          have G1 := hideP (HG.out j k _ hlt hlt2 hB)
          generalize mk j C f ++ rowM k f j = ys at *
          generalize f j k = x at *
          go_wp2_with fail
          refine G1.out.mono ?_
          rintro e w2 ⟨rfl, h2⟩
          replace hown := own_blF hown h2
          replace hz := hz.later h2
          replace hB := hB.trans h2
          have hys := hlen
          clear G1
          go_wp2_with (at_builtin; refine wpList_append_own _ rfl _ _ 60 rfl (w.heap.size + 1) 66 i0 (.agg #[.int .i64 0, .int .i64 0, .bool false]) 3 24 Tryz.underlying60 hi hz0 hz1 hz2 rfl (by decide) _ _ _ rfl (hown.alloc _) ⟨_, 0, none⟩ 1 1 (cellsF x) rfl rfl (newF_cells _ _ _) (oneF_cells _) (by unfold maxLen; omega) (by omega) (by have := hB.size; have := hz.lt; simp; omega) ?_; intro v' w1 hown' hgrow _)
          have R1 := own_more (ys := [x]) (hB.alloc _) (Nat.le_succ _) (hown.alloc _) (by simpa using hown') rfl hgrow
          have Z1 := (hz.later ((Bl.refl _).alloc _)).grown (hown.alloc _) hgrow (Nat.lt_succ_self _)
          clear hown hown' hgrow hz
          go_wp2
          go_roundw
          case rel => exact ⟨k + 1, by simp, hlt2, by rw [HT.out]; exact R1.2, Z1, R1.1⟩
          case measure => simp [intOf]; omega
        · obtain rfl : k = C := by omega
          have HT := hideP (mk_succ j k f)
          go_wp2_with fail
          go_roundw
          case rel => exact ⟨j + 1, by simp, hlt, by rw [HT.out]; exact hown, hz, hB⟩
          case measure => simp [intOf]; omega
    · obtain rfl : j = R := by omega
      have RW := hideP (Rw.of_own cellsF_len hown)
      have FR := hideP (show Fresh (w.heap.size + 1) _ from fun g hg => (hown.lt g hg).1)
      obtain ⟨p', cap', hv, hcc, _⟩ := RW.out.cut
      rw [mk_len, ← HN.out] at hv
      have HV := hideP hv
      clear hv
      obtain ⟨c0, c1, c2, f0, f1, f2, lt⟩ := hz
      clear hown
      rename_i v
      obtain rfl := HV.out
      go_wp2
      simp [bodyPost, results, Tryz.results155, go_sem, c0, c1, c2]
      refine ⟨p', cap', ⟨rfl, rfl⟩, ⟨((RW.out.set _ FR.out).set _ FR.out).set _ FR.out, fun g hg => by have := FR.out g hg; omega⟩, Bl.put3 hB (Nat.le_refl _) _ _ _⟩
theorem mTurn1F (R C : Nat) (p : Option Addr) (n cap : Nat) (f : Nat → Nat → Fr) (w : World) (h : Mx 3 cellsF w R C p n cap f) (mb : Nat) (hm : MBox w mb R C p n cap) (i k : Nat) (hi : i < C) (hk : k < R) :
    Calls Tryz.prog 156 #[.int .i64 i, .int .i64 k, .pointer (some ⟨mb, 0, none⟩)] w fun e w' => e = .returned (frV (f k i)) ∧ Bl w w' := by
  have A := hideP (fun u (hu : Bl w u) => mAtF R C p n cap f u (h.later hu) k i hk hi)
  obtain ⟨W, hW⟩ : ∃ W, W = w.alloc (.cells #[.int .i64 0, .int .i64 0, .bool false] 66) := ⟨_, rfl⟩
  have b0 : Bl w W := by rw [hW]; exact (Bl.refl _).alloc _
  have x0 : FBox W w.heap.size zeroR := by rw [hW]; exact FBox.new w zeroR 66
  obtain ⟨c0, c1, c2, f0, f1, f2, lt⟩ := hm
  have HW := hideP hW
  clear hW h
  generalize f k i = x at *
  go_enter Tryz.func156, Tryz.ntmps156
  go_wp2_with fail
  rw [← HW.out]
  refine (A.out _ b0).mono ?_
  rintro e w1 ⟨rfl, h1⟩
  clear c0 c1 c2 f0 f1 f2 A
  obtain ⟨d0, d1, d2, g0, g1, g2, lt2⟩ := x0.later h1
  go_wp2
  simp [bodyPost, results, Tryz.results156, go_sem, d0, d1, d2]
  exact Bl.set3 (b0.trans h1) (Nat.le_refl _) _ _ _
theorem mTurnF (R C : Nat) (p : Option Addr) (n cap : Nat) (f : Nat → Nat → Fr) (w : World) (h : Mx 3 cellsF w R C p n cap f) :
    Calls Tryz.prog 114 #[mV R C p n cap] w fun e w' => ∃ p' cap', e = .returned (mV C R p' n cap') ∧ (Mx 3 cellsF w' C R p' n cap' (fun i k => f k i) ∧ Rw 3 cellsF w' (.slice p' n cap') (mk C R (fun i k => f k i)) ∧ Fresh w.heap.size (.slice p' n cap')) ∧ Bl w w' := by
  have hfit := h.fit
  obtain ⟨W, hW⟩ : ∃ W, W = (w.alloc (.cells #[.int .i64 R, .int .i64 C, .slice p n cap] 62)).alloc (.cells #[.int .i64 0, .int .i64 0, .slice none 0 0] 62) := ⟨_, rfl⟩
  have b0 : Bl w W := by rw [hW]; exact ((Bl.refl _).alloc _).alloc _
  have m0 : MBox W w.heap.size R C p n cap := by rw [hW]; exact (MBox.new w _ _ _ _ _ _).later ((Bl.refl _).alloc _)
  have x0 : MBox W (w.heap.size + 1) 0 0 none 0 0 := by rw [hW]; have := MBox.new (w.alloc (.cells #[.int .i64 R, .int .i64 C, .slice p n cap] 62)) 0 0 none 0 0 62; rw [World.size_alloc] at this; exact this
  have hs : W.heap.size = w.heap.size + 1 + 1 := by rw [hW]; simp
  have FI := hideP (fun u (hu : Bl W u) => mFilledF 156 w.heap.size (enters_of Tryz.func156 (by kernel_rfl) rfl) (fun i k => f k i) C R n h.1.turn (by rw [h.2.1, Nat.mul_comm]) u
    (fun i k v hi hk hv => mTurn1F R C p n cap f v (h.later (b0.trans (hu.trans hv))) _ (m0.later (hu.trans hv)) i k hi hk))
  have HD := hideP h
  have HW := hideP hW
  clear hW h
  go_enter Tryz.func114, Tryz.ntmps114
  go_wp2_with fail
  rw [← HW.out]
  refine (mRightF _ _ _ _ _ _).mono ?_
  rintro e w1 ⟨rfl, h1⟩
  rw [hfit]
  obtain ⟨c0, c1, c2, f0, f1, f2, lt⟩ := m0.later h1
  go_wp2_with fail
  refine (FI.out _ h1).mono ?_
  rintro e w2 ⟨p', cap', rfl, ⟨hR, hF⟩, h2⟩
  have HR := hideP hR
  have HF := hideP (show Fresh (w.heap.size + 1 + 1) (.slice p' n cap') from fun g hg => by have := hF g hg; have := h1.size; omega)
  clear hR hF FI c0 c1 c2 f0 f1 f2
  obtain ⟨c0, c1, c2, f0, f1, f2, lt2⟩ := x0.later (h1.trans h2)
  go_wp2
  simp [bodyPost, results, Tryz.results114, go_sem, c0, c1, c2]
  have q := ((HR.out.set (p := ⟨w.heap.size + 1, 0, none⟩) (.int .i64 C) HF.out).set (p := ⟨w.heap.size + 1, 1, none⟩) (.int .i64 R) HF.out).set (p := ⟨w.heap.size + 1, 2, none⟩) (.slice p' n cap') HF.out
  refine ⟨p', cap', ⟨rfl, rfl⟩, ⟨⟨HD.out.1.turn, by rw [HD.out.2.1, Nat.mul_comm], q.q⟩, q, fun g hg => by have := HF.out g hg; omega⟩, Bl.put3 ((b0.trans h1).trans h2) (Nat.le_succ _) _ _ _⟩
end Go.Proofs.YtlbmkjicbkfmjaaGreat

/- Contracts of mat's All, and of what it tells: an iterator over a matrix's rows, of fractions (layer 6). Written by genMa.py. -/
namespace Go.Proofs.YtlbmkjicbkfmjaaGreat
open Go.RowKit Go.Shelf
set_option linter.unusedSimpArgs false
set_option linter.unusedVariables false
attribute [local go_sem] Oper.semAt_some
theorem mAllF (R C : Nat) (p : Option Addr) (n cap : Nat) (f : Nat → Nat → Fr) (w : World) (h : Mx 3 cellsF w R C p n cap f) :
    Calls Tryz.prog 112 #[mV R C p n cap] w fun e w' => ∃ B p' cap', e = .returned (.func (.func 153) #[] #[.pointer (some ⟨B, 0, none⟩)]) ∧ KeptIn 3 cellsF w' w.heap.size w'.heap.size B R C p' n cap' f ∧ Bl w w' := by
  have hfit := h.fit
  obtain ⟨W, hW⟩ : ∃ W, W = (w.alloc (.cells #[.int .i64 R, .int .i64 C, .slice p n cap] 62)) := ⟨_, rfl⟩
  have b0 : Bl w W := by rw [hW]; exact (Bl.refl _).alloc _
  have m0 : MBox W w.heap.size R C p n cap := by rw [hW]; exact MBox.new w _ _ _ _ _ _
  have NW := hideP (mNewF R C p n cap (mk R C f) W (h.2.2.later b0) hfit (by rw [mk_len, h.2.1]))
  have HD := hideP h
  obtain ⟨c0, c1, c2, f0, f1, f2, lt⟩ := m0
  have HW := hideP hW
  clear hW h
  go_enter Tryz.func112, Tryz.ntmps112
  go_wp2_with fail
  rw [← HW.out]
  refine NW.out.mono ?_
  rintro e w1 ⟨p', cap', rfl, ⟨hR, hF⟩, h1⟩
  have HR := hideP hR
  have HF := hideP hF
  clear hR hF NW c0 c1 c2 f0 f1 f2
  go_wp2
  go_ret
  have hb : Bl w w1 := b0.trans h1
  refine ⟨w1.heap.size, p', cap', rfl, ?_, hb.alloc _⟩
  exact ⟨HD.out.1, HD.out.2.1, MBox.new w1 _ _ _ _ _ _, hb.size, by simp, HR.out.later ((Bl.refl _).alloc _), fun g hg => ⟨by have := HF.out g hg; have := b0.size; omega, by have := HR.out.lt g hg; simp; omega⟩⟩
theorem Tryz.yieldMF (l : Nat) (w : World) : (binOp .eql 178 (.func (.yield l) #[] #[]) .nilFunc).run Tryz.prog w = .ok (.bool false) w := by kernel_rfl
set_option maxRecDepth 100000 in
set_option maxHeartbeats 2000000 in
theorem iterMF (m l B lo hi R C : Nat) (p : Option Addr) (n cap : Nat) (f : Nat → Nat → Fr) (J Jx : List RowX → World → Prop) (W : World) (hJ : AbidesFrom W.heap.size J) (hh : hi ≤ W.heap.size)
    (hY : ∀ pre x W0 W1, J pre W0 → RowOk 3 cellsF R C f x W0 W1 → pre.length < R → YieldAt Fence.wide (m - 1) Tryz.prog l #[.int .i64 x.1, rowV C x] W1 fun e W' =>
      (e = .returned (.bool true) ∧ J (pre ++ [x]) W' ∧ Span lo hi W1 W') ∨ (e = .returned (.bool false) ∧ Jx (pre ++ [x]) W'))
    (hP : KeptIn 3 cellsF W lo hi B R C p n cap f) (h0 : J [] W) :
    CallsIn Fence.wide m Tryz.prog 153 #[.func (.yield l) #[] #[], .pointer (some ⟨B, 0, none⟩)] W fun e W' => (∃ v, e = .returned v) ∧
      ((∃ zs : List RowX, zs.map (·.1) = List.range R ∧ J zs W') ∨ (∃ pre : List RowX, pre.map (·.1) <+: List.range R ∧ Jx pre W')) := by
  have yn := Tryz.yieldMF l
  have HP := hideP hP
  have hR16 := hP.hd.r2
  obtain ⟨c0, c1, c2, f0, f1, f2, lt⟩ := hP.box
  clear hP
  refine callsIn_of_wp Tryz.func153 rfl trivial ?_ rfl
  simp only [Tryz.ntmps153, List.size_toArray, List.length_cons, List.length_nil, Nat.reduceAdd, Nat.reduceSub, Array.replicate_succ, Array.replicate_zero, List.push_toArray, List.append_toArray, List.nil_append, List.cons_append]
  gi_wp2
  clear c0 c1 c2 f0 f1 f2
  gi_loopw [8] (fun i wr => ∃ (k : Nat) (pre : List RowX), k ≤ R ∧ i = .int .i64 k ∧ pre.map (·.1) = List.range k ∧ J pre wr ∧ Span lo hi W wr) (fun i _ => R - (intOf i).toNat)
  case atStart => exact ⟨0, [], Nat.zero_le _, rfl, rfl, h0, Span.refl _ _ _⟩
  case round =>
    obtain ⟨k, pre, hk, rfl, hpre, hJs, hsp⟩ := hrel
    have hlen : pre.length = k := by have := congrArg List.length hpre; simpa using this
    have HPR := hideP hpre
    clear hpre
    by_cases hlt : k < R
    · have HKK := hideP (HP.out.later hsp)
      obtain ⟨c0, c1, c2, f0, f1, f2, lt⟩ := HKK.out.box
      gi_wp2_with fail
      refine ⟨trivial, fun h => (by cases h), ?_⟩
      refine (callsIn_wide.2 (mRowF R C p n cap f _ HKK.out.mx k hlt)).mono ?_
      rintro e w1 ⟨p', cap', rfl, ⟨hR, hF, hcc⟩, h1⟩
      obtain ⟨fn, tmps, assign, body, hyd, hR2⟩ := hY pre (k, p', cap') _ w1 hJs ⟨h1, hlt, hR, hF, hcc⟩ (by omega)
      dsimp only at hyd
      clear c0 c1 c2 f0 f1 f2 hR hF
      have hR3 : RoundIn Fence.wide (m - 1) Tryz.prog l fn tmps assign body w1 fun e W' => ∃ r : Bool, e = .returned (.bool r) ∧ ((r = true ∧ J (pre ++ [(k, p', cap')]) W' ∧ Span lo hi w1 W') ∨ (r = false ∧ Jx (pre ++ [(k, p', cap')]) W')) := by
        refine hR2.mono ?_
        rintro e W' (⟨rfl, h1, h2⟩ | ⟨rfl, h1⟩)
        · exact ⟨true, rfl, .inl ⟨rfl, h1, h2⟩⟩
        · exact ⟨false, rfl, .inr ⟨rfl, h1⟩⟩
      gi_wp2_with fail
      refine ⟨fun h => (by cases h), ?_⟩
      refine hR3.mono ?_
      rintro e W3 ⟨r, rfl, hr⟩
      have sp1 : Span lo hi W w1 := hsp.trans (h1.span (by have := hsp.size; omega))
      have HT := hideP (show (pre ++ [((k, p', cap') : RowX)]).map (·.1) = List.range (k + 1) by rw [List.map_append, HPR.out, List.range_succ]; rfl)
      rcases hr with ⟨rfl, hJ3, hk3⟩ | ⟨rfl, hJx3⟩
      · gi_wp2
        go_roundw
        case rel => exact ⟨k + 1, _, by omega, by simp, HT.out, hJ3, sp1.trans hk3⟩
        case measure => simp [intOf]; omega
      · gi_wp2
        refine bodyPost_ret (results_none rfl _ _ _) rfl ?_
        exact ⟨⟨_, rfl⟩, .inr ⟨_, by rw [HT.out]; exact range_pre hlt, hJx3⟩⟩
    · obtain rfl : k = R := by omega
      have HJ := hideP hJs
      clear hJs
      gi_wp2
      go_end0
      exact ⟨⟨_, rfl⟩, .inl ⟨pre, HPR.out, HJ.out⟩⟩
/-- All's function as what a loop goes through: all rows in their order, or the first ones, where a round has said that it is enough. -/
theorem seqMF (m B lo hi R C : Nat) (p : Option Addr) (n cap : Nat) (f : Nat → Nat → Fr) (w : World) (hh : hi ≤ w.heap.size) (hP : KeptIn 3 cellsF w lo hi B R C p n cap f) :
    SeqV Fence.wide m Tryz.prog 153 #[.pointer (some ⟨B, 0, none⟩)] (fun x : RowX => #[.int .i64 x.1, rowV C x]) (RowOk 3 cellsF R C f) (Span lo hi) (fun zs => zs.map (·.1) = List.range R) (fun pre => pre.map (·.1) <+: List.range R) R w :=
  fun l J Jx W hW hJ _ hY h0 => iterMF m l B lo hi R C p n cap f J Jx W hJ (Nat.le_trans hh hW.size) hY (hP.later (Bl.span hW hh)) h0
end Go.Proofs.YtlbmkjicbkfmjaaGreat

/- Contracts of Clone, Row, All, New where what is told lies in a block of its own that may be changed, of fractions (layer 8). Written by genHu.py. -/
namespace Go.Proofs.YtlbmkjicbkfmjaaGreat
open Go.RowKit Go.Shelf
set_option linter.unusedSimpArgs false
set_option linter.unusedVariables false
attribute [local go_sem] Oper.semAt_some
set_option maxHeartbeats 1000000 in
theorem vCloneZF (v : Value) (xs : List Fr) (w : World) (h : Rq 3 cellsF w v xs) (hl : xs.length ≤ 1000000) (hne : xs ≠ []) :
    Calls Tryz.prog 98 #[v] w fun e w' => ∃ u, e = .returned u ∧ RwZ 3 cellsF w' w.heap.size u xs ∧ Bl w w' := by
  have n0 := Tryz.nil0F
  have n1 := Tryz.nil1F
  obtain ⟨i0, hi, hz0, hz1, hz2⟩ := info_parts Tryz.info_F
  rcases h with ⟨p, cap, rfl, rfl, hpn⟩ | ⟨b, o, cap, rfl, hc, hb, hx⟩
  · exact absurd rfl hne
  · have HX := hideP hx
    clear hx n0
    go_enter Tryz.func98, Tryz.ntmps98
    go_wp2_with (at_builtin; refine wpList_append_own _ rfl _ _ 60 rfl w.heap.size 66 i0 (.agg #[.int .i64 0, .int .i64 0, .bool false]) 3 24 Tryz.underlying60 hi hz0 hz1 hz2 rfl (by decide) _ 0 [] rfl (World.ownsRow_made w #[] 0 (Nat.le_refl _) (by decide) rfl) ⟨b, o, none⟩ xs.length cap (xs.flatMap cellsF) rfl (flat_len cellsF_len xs) (flat_cells cellsF_len ((Rw_cells_later HX.out hb ((Bl.refl _).alloc _)))) (flat_one oneF_cells xs) (by unfold maxLen; omega) (by omega) (by simp) ?_; intro v' w1 hown' hgrow _)
    have R := hideP (RwZ.of_own (xs := xs) cellsF_len (by simpa using hown') hne)
    have hB : Bl w w1 := Below.grown (Below.alloc (Bl.refl w) (Nat.le_refl _) _) hgrow (by simp) (fun k e => by cases e; exact Nat.le_refl _)
    clear hown' hgrow
    go_wp2
    go_ret
    exact ⟨_, rfl, R.out, hB⟩
theorem RwZ.base {α : Type} {s : Nat} {c : α → List Value} {w : World} {lo lo' : Nat} {v : Value} {xs : List α} (h : RwZ s c w lo v xs) (k : lo' ≤ lo) : RwZ s c w lo' v xs := by
  obtain ⟨b, cap, e, hc, hlo, r⟩ := h
  exact ⟨b, cap, e, hc, Nat.le_trans k hlo, r⟩
theorem mRowZF (R C : Nat) (p : Option Addr) (n cap : Nat) (f : Nat → Nat → Fr) (w : World) (h : Mx 3 cellsF w R C p n cap f) (i : Nat) (hi : i < R) :
    Calls Tryz.prog 154 #[mV R C p n cap, .int .i64 i] w fun e w' => ∃ p' cap', e = .returned (.slice p' C cap') ∧ (RwZ 3 cellsF w' w.heap.size (.slice p' C cap') (rowM C f i) ∧ C ≤ cap') ∧ Bl w w' := by
  have hfit := h.fit
  obtain ⟨b, o, rfl, hc, hb, -⟩ := h.cells
  obtain ⟨hd, hn, hR⟩ := h
  have ha1 := amongB_t hi
  have h16 := hd.lt
  have hi16 : i < 16 := Nat.lt_of_lt_of_le hi hd.r2
  have hC16 := hd.c2
  have hC1 := hd.c1
  obtain ⟨a, e, e1, e2, hq1, hq3, hq5, hq6, hq7⟩ := places hd hi
  have hpt : Rq 3 cellsF w (.slice (some ⟨b, o + a * 3, none⟩) C (cap - a)) (rowM C f i) := by
    have := hR.part (lo := a) (m := C) (by rw [mk_len, hn]) (by omega) (by omega) (cap - a) (by omega)
    rw [e1, mk_row f hi] at this
    rw [e1]
    exact this
  have sl := fun u => Tryz.partF b o n cap a e u (by omega) (by omega) hc (by omega)
  rw [show e - a = C by omega] at sl
  have HP := hideP hpt
  rw [← hn] at h16 hq5
  clear hR hpt e1 e2 hn
  obtain ⟨W, hW⟩ : ∃ W, W = (w.alloc (.cells #[.int .i64 R, .int .i64 C, .slice (some ⟨b, o, none⟩) n cap] 62)) := ⟨_, rfl⟩
  have b0 : Bl w W := by rw [hW]; exact (Bl.refl _).alloc _
  have m0 : MBox W w.heap.size R C (some ⟨b, o, none⟩) n cap := by rw [hW]; exact MBox.new w _ _ _ _ _ _
  have HW := hideP hW
  clear hW
  go_enter Tryz.func154, Tryz.ntmps154
  go_wp2_with fail
  rw [← HW.out]
  refine (mRightF _ _ _ _ _ _).mono ?_
  rintro e w1 ⟨rfl, h1⟩
  rw [hfit]
  obtain ⟨c0, c1, c2, f0, f1, f2, lt⟩ := m0.later h1
  go_wp2_with fail
  refine (among_any _ _ _).mono ?_
  rintro e w2 ⟨rfl, rfl⟩
  rw [ha1]
  go_wp2_with fail
  refine (vCloneZF _ (rowM C f i) _ (HP.out.later (b0.trans h1)) (by rw [rowM_len]; omega) (by intro e; have := congrArg List.length e; rw [rowM_len] at this; simp at this; omega)).mono ?_
  rintro e w3 ⟨u, rfl, hR, h3⟩
  obtain ⟨p', cap', rfl, hcl, _⟩ := hR.rw.cut
  rw [rowM_len] at hR hcl ⊢
  have HR := hideP hR
  clear hR
  go_wp2
  go_ret
  exact ⟨p', cap', rfl, ⟨HR.out.base (b0.trans h1).size, hcl⟩, (b0.trans h1).trans h3⟩
/-- What holds of a row that an iterator tells, where it may be changed. -/
def RowOkZ {α : Type} (s : Nat) (c : α → List Value) (R C : Nat) (f : Nat → Nat → α) (x : RowX) (W0 W : World) : Prop :=
  Bl W0 W ∧ x.1 < R ∧ RwZ s c W W0.heap.size (rowV C x) (rowM C f x.1) ∧ C ≤ x.2.2
set_option maxRecDepth 100000 in
set_option maxHeartbeats 2000000 in
theorem iterMZF (m l B lo hi R C : Nat) (p : Option Addr) (n cap : Nat) (f : Nat → Nat → Fr) (J Jx : List RowX → World → Prop) (W : World) (hJ : AbidesFrom W.heap.size J) (hh : hi ≤ W.heap.size)
    (hY : ∀ pre x W0 W1, J pre W0 → RowOkZ 3 cellsF R C f x W0 W1 → pre.length < R → YieldAt Fence.wide (m - 1) Tryz.prog l #[.int .i64 x.1, rowV C x] W1 fun e W' =>
      (e = .returned (.bool true) ∧ J (pre ++ [x]) W' ∧ Span lo hi W1 W') ∨ (e = .returned (.bool false) ∧ Jx (pre ++ [x]) W'))
    (hP : KeptIn 3 cellsF W lo hi B R C p n cap f) (h0 : J [] W) :
    CallsIn Fence.wide m Tryz.prog 153 #[.func (.yield l) #[] #[], .pointer (some ⟨B, 0, none⟩)] W fun e W' => (∃ v, e = .returned v) ∧
      ((∃ zs : List RowX, zs.map (·.1) = List.range R ∧ J zs W') ∨ (∃ pre : List RowX, pre.map (·.1) <+: List.range R ∧ Jx pre W')) := by
  have yn := Tryz.yieldMF l
  have HP := hideP hP
  have hR16 := hP.hd.r2
  obtain ⟨c0, c1, c2, f0, f1, f2, lt⟩ := hP.box
  clear hP
  refine callsIn_of_wp Tryz.func153 rfl trivial ?_ rfl
  simp only [Tryz.ntmps153, List.size_toArray, List.length_cons, List.length_nil, Nat.reduceAdd, Nat.reduceSub, Array.replicate_succ, Array.replicate_zero, List.push_toArray, List.append_toArray, List.nil_append, List.cons_append]
  gi_wp2
  clear c0 c1 c2 f0 f1 f2
  gi_loopw [8] (fun i wr => ∃ (k : Nat) (pre : List RowX), k ≤ R ∧ i = .int .i64 k ∧ pre.map (·.1) = List.range k ∧ J pre wr ∧ Span lo hi W wr) (fun i _ => R - (intOf i).toNat)
  case atStart => exact ⟨0, [], Nat.zero_le _, rfl, rfl, h0, Span.refl _ _ _⟩
  case round =>
    obtain ⟨k, pre, hk, rfl, hpre, hJs, hsp⟩ := hrel
    have hlen : pre.length = k := by have := congrArg List.length hpre; simpa using this
    have HPR := hideP hpre
    clear hpre
    by_cases hlt : k < R
    · have HKK := hideP (HP.out.later hsp)
      obtain ⟨c0, c1, c2, f0, f1, f2, lt⟩ := HKK.out.box
      gi_wp2_with fail
      refine ⟨trivial, fun h => (by cases h), ?_⟩
      refine (callsIn_wide.2 (mRowZF R C p n cap f _ HKK.out.mx k hlt)).mono ?_
      rintro e w1 ⟨p', cap', rfl, ⟨hR, hcc⟩, h1⟩
      obtain ⟨fn, tmps, assign, body, hyd, hR2⟩ := hY pre (k, p', cap') _ w1 hJs ⟨h1, hlt, hR, hcc⟩ (by omega)
      dsimp only at hyd
      clear c0 c1 c2 f0 f1 f2 hR
      have hR3 : RoundIn Fence.wide (m - 1) Tryz.prog l fn tmps assign body w1 fun e W' => ∃ r : Bool, e = .returned (.bool r) ∧ ((r = true ∧ J (pre ++ [(k, p', cap')]) W' ∧ Span lo hi w1 W') ∨ (r = false ∧ Jx (pre ++ [(k, p', cap')]) W')) := by
        refine hR2.mono ?_
        rintro e W' (⟨rfl, h1, h2⟩ | ⟨rfl, h1⟩)
        · exact ⟨true, rfl, .inl ⟨rfl, h1, h2⟩⟩
        · exact ⟨false, rfl, .inr ⟨rfl, h1⟩⟩
      gi_wp2_with fail
      refine ⟨fun h => (by cases h), ?_⟩
      refine hR3.mono ?_
      rintro e W3 ⟨r, rfl, hr⟩
      have sp1 : Span lo hi W w1 := hsp.trans (h1.span (by have := hsp.size; omega))
      have HT := hideP (show (pre ++ [((k, p', cap') : RowX)]).map (·.1) = List.range (k + 1) by rw [List.map_append, HPR.out, List.range_succ]; rfl)
      rcases hr with ⟨rfl, hJ3, hk3⟩ | ⟨rfl, hJx3⟩
      · gi_wp2
        go_roundw
        case rel => exact ⟨k + 1, _, by omega, by simp, HT.out, hJ3, sp1.trans hk3⟩
        case measure => simp [intOf]; omega
      · gi_wp2
        refine bodyPost_ret (results_none rfl _ _ _) rfl ?_
        exact ⟨⟨_, rfl⟩, .inr ⟨_, by rw [HT.out]; exact range_pre hlt, hJx3⟩⟩
    · obtain rfl : k = R := by omega
      have HJ := hideP hJs
      clear hJs
      gi_wp2
      go_end0
      exact ⟨⟨_, rfl⟩, .inl ⟨pre, HPR.out, HJ.out⟩⟩
theorem seqMZF (m B lo hi R C : Nat) (p : Option Addr) (n cap : Nat) (f : Nat → Nat → Fr) (w : World) (hh : hi ≤ w.heap.size) (hP : KeptIn 3 cellsF w lo hi B R C p n cap f) :
    SeqV Fence.wide m Tryz.prog 153 #[.pointer (some ⟨B, 0, none⟩)] (fun x : RowX => #[.int .i64 x.1, rowV C x]) (RowOkZ 3 cellsF R C f) (Span lo hi) (fun zs => zs.map (·.1) = List.range R) (fun pre => pre.map (·.1) <+: List.range R) R w :=
  fun l J Jx W hW hJ _ hY h0 => iterMZF m l B lo hi R C p n cap f J Jx W hJ (Nat.le_trans hh hW.size) hY (hP.later (Bl.span hW hh)) h0
theorem RwZ.set {α : Type} {s : Nat} {c : α → List Value} {w : World} {lo : Nat} {v : Value} {xs : List α} (h : RwZ s c w lo v xs) {p : Addr} (u : Value) (hf : p.block < lo) : RwZ s c (w.setCell p u) lo v xs := by
  obtain ⟨b, cap, rfl, hc, hlo, hb, hz, hx⟩ := h
  have hk : (w.setCell p u).heap[b]? = w.heap[b]? := Below.heap_setCell _ _ _ b (by omega)
  exact ⟨b, cap, rfl, hc, hlo, by simpa using hb, fun o => (World.frozen?_of_block (a := ⟨b, o, none⟩) hk).trans (hz o), fun j x hj k v hv => (World.cell?_of_block (a := ⟨b, j * s + k, none⟩) hk).trans (hx j x hj k v hv)⟩
theorem mNewZF (r c : Int) (p : Option Addr) (n cap : Nat) (xs : List Fr) (w : World) (hr : Rq 3 cellsF w (.slice p n cap) xs) (h : fitB r c n = true) (hn : xs.length = n) :
    Calls Tryz.prog 124 #[.int .i64 r, .int .i64 c, .slice p n cap] w fun e w' => ∃ p' cap', e = .returned (.tuple #[mV r c p' n cap', .bool true]) ∧ RwZ 3 cellsF w' w.heap.size (.slice p' n cap') xs ∧ Bl w w' := by
  have hl : n ≤ 1000000 := by obtain ⟨R, C, _, _, hd, rfl⟩ := fitB_nat h; have := hd.lt; omega
  obtain ⟨W, hW⟩ : ∃ W, W = w.alloc (.cells #[.int .i64 0, .int .i64 0, .slice none 0 0] 62) := ⟨_, rfl⟩
  have b0 : Bl w W := by rw [hW]; exact (Bl.refl _).alloc _
  have x0 : MBox W w.heap.size 0 0 none 0 0 := by rw [hW]; exact MBox.new w 0 0 none 0 0 _
  have hsz : W.heap.size = w.heap.size + 1 := by rw [hW]; simp
  have hne : xs ≠ [] := by
    obtain ⟨R, C, _, _, hd, e⟩ := fitB_nat h
    have := Mx.pos hd e
    intro e2
    rw [e2] at hn
    simp at hn
    omega
  have CL := hideP (vCloneZF (.slice p n cap) xs W (hr.later b0) (by omega) hne)
  have HW := hideP hW
  clear hW hr
  go_enter Tryz.func124, Tryz.ntmps124
  go_wp2_with fail
  rw [← HW.out]
  refine (fits_any _ _ _ _).mono ?_
  rintro e w1 ⟨rfl, rfl⟩
  rw [h]
  go_wp2_with fail
  refine CL.out.mono ?_
  rintro e w2 ⟨u, rfl, hR, h2⟩
  obtain ⟨p', cap', rfl, _, _⟩ := hR.rw.cut
  rw [hn] at hR ⊢
  have HR := hideP (hR.base (lo' := w.heap.size + 1) (by omega))
  obtain ⟨c0, c1, c2, f0, f1, f2, lt⟩ := x0.later h2
  clear hR CL
  go_wp2
  simp [bodyPost, results, Tryz.results124, go_sem, c0, c1, c2]
  exact ⟨p', cap', ⟨rfl, rfl⟩, (((HR.out.set _ (Nat.lt_succ_self _)).set _ (Nat.lt_succ_self _)).set _ (Nat.lt_succ_self _)).base (by omega), Bl.put3 (b0.trans h2) (Nat.le_refl _) _ _ _⟩
end Go.Proofs.YtlbmkjicbkfmjaaGreat

/- Contracts of tri's square, triangle, and of Whole's own memory, of fractions (layer 7). Written by genTr.py. -/
namespace Go.Proofs.YtlbmkjicbkfmjaaGreat
open Go.RowKit
set_option linter.unusedSimpArgs false
set_option linter.unusedVariables false

theorem tSquareF (r c : Int) (p : Option Addr) (n cap : Nat) (w : World) :
    Calls Tryz.prog 115 #[mV r c p n cap] w fun e w' => e = .returned (.bool (sqB r c n)) ∧ Bl w w' := by
  obtain ⟨W, hW⟩ : ∃ W, W = w.alloc (.cells #[.int .i64 r, .int .i64 c, .slice p n cap] 62) := ⟨_, rfl⟩
  have b0 : Bl w W := by rw [hW]; exact (Bl.refl _).alloc _
  have m0 : MBox W w.heap.size r c p n cap := by rw [hW]; exact MBox.new w _ _ _ _ _ _
  have HW := hideP hW
  clear hW
  have hd : sqB r c n = (fitB r c n && (r == c)) := by unfold sqB; congr 1
  rw [hd]
  clear hd
  cases hf : fitB r c n
  · go_enter Tryz.func115, Tryz.ntmps115
    go_wp2_with fail
    rw [← HW.out]
    refine (mRightF _ _ _ _ _ _).mono ?_
    rintro e w1 ⟨rfl, h1⟩
    rw [hf]
    obtain ⟨c0, c1, c2, f0, f1, f2, lt⟩ := m0.later h1
    go_wp2
    go_ret
    exact ⟨rfl, b0.trans h1⟩
  · go_enter Tryz.func115, Tryz.ntmps115
    go_wp2_with fail
    rw [← HW.out]
    refine (mRightF _ _ _ _ _ _).mono ?_
    rintro e w1 ⟨rfl, h1⟩
    rw [hf]
    obtain ⟨c0, c1, c2, f0, f1, f2, lt⟩ := m0.later h1
    go_wp2
    go_ret
    exact ⟨by rw [Bool.true_and]; rfl, b0.trans h1⟩
set_option maxHeartbeats 1000000 in
/-- vec.Whole's memory is its own. -/
theorem vWholeOF (p : Option Addr) (n cap : Nat) (ns : List Int) (w : World) (h : Rq 1 (fun n => [.int .i64 n]) w (.slice p n cap) ns) (hn : ns.length = n) (h0 : 0 < n) (hl : n ≤ 1000000) :
    Calls Tryz.prog 31 #[.slice p n cap] w fun e w' => ∃ u, e = .returned u ∧ w'.ownsRow w.heap.size 66 3 u n ((ns.map wholeF).flatMap cellsF) ∧ Bl w w' := by
  obtain ⟨i0, hi, hz0, hz1, hz2⟩ := info_parts Tryz.info_F
  subst hn
  rcases h with ⟨p', cap', he, rfl, hpn⟩ | ⟨b, o, cap', he, hc, hb, hx⟩
  · simp at h0
  · cases he
    have HX := hideP hx
    clear hx
    go_enter Tryz.func31, Tryz.ntmps31
    go_wp2_with (at_make; refine wpList_make_own _ rfl _ _ 60 rfl w.heap.size 66 i0 (.agg #[.int .i64 0, .int .i64 0, .bool false]) 3 Tryz.underlying60 hi hz0 hz1 .i64 .i64 _ ns.length rfl rfl (by simp) (by rw [hz2]; omega) (by unfold maxLen; omega) (Nat.le_refl _) ?_; intro w0 hown0 hgrow0)
    have hB0 : Bl w w0 := (Bl.refl w).grown hgrow0 (by omega) (fun k e => by cases e)
    go_loopw [3, 11] (fun v i wr => ∃ k : Nat, i = .int .i64 k ∧ k ≤ ns.length ∧ wr.ownsRow w.heap.size 66 3 v ((ns.take k).map wholeF).length (((ns.take k).map wholeF).flatMap cellsF) ∧ Bl w wr) (fun _ i _ => ns.length - (intOf i).toNat)
    case atStart => exact ⟨0, rfl, Nat.zero_le _, hown0, hB0⟩
    case round =>
      obtain ⟨k, rfl, hk, hown, hB⟩ := hrel
      by_cases hlt : k < ns.length
      · obtain ⟨x, hx⟩ : ∃ x, ns[k]? = some x := ⟨_, List.getElem?_eq_getElem hlt⟩
        have y0 : wr.cell? ⟨b, o + k, none⟩ = some (.int .i64 x) := by
          have := (bl_cell hB _ _ hb).trans (HX.out k x hx 0 _ rfl)
          simpa using this
        have hT : (ns.take (k + 1)).map wholeF = (ns.take k).map wholeF ++ [wholeF x] := by rw [List.take_add_one, hx]; simp
        have hkl : ((ns.take k).map wholeF).length = k := by simp; omega
        have HK := hideP hkl
        clear hkl
        have HT := hideP hT
        clear hT
        generalize hys : (ns.take k).map wholeF = ys at *
        clear hys
        go_wp2_with fail
        refine (vwholeF x _).mono ?_
        rintro e w2 ⟨rfl, h2⟩
        have hr : wholeF x = (newR x 1) := rfl
        generalize (newR x 1) = r at *
        rw [hr] at HT
        clear hr y0
        replace hown := own_blF hown h2
        replace hB := hB.trans h2
        have hkk := HK.out
        go_wp2_with (at_builtin; refine wpList_append_own _ rfl _ _ 60 rfl w.heap.size 66 i0 (.agg #[.int .i64 0, .int .i64 0, .bool false]) 3 24 Tryz.underlying60 hi hz0 hz1 hz2 rfl (by decide) _ _ _ rfl (hown.alloc _) ⟨_, 0, none⟩ 1 1 (cellsF r) rfl rfl (newF_cells _ _ _) (oneF_cells _) (by unfold maxLen; omega) (by omega) (by have := hB.size; simp; omega) ?_; intro v' w1 hown' hgrow _)
        have R := ownF_step hB hown hown' hgrow
        clear hown hown' hgrow
        go_wp2
        go_roundw
        case rel => exact ⟨k + 1, by simp, hlt, by rw [HT.out]; exact R.2, R.1⟩
        case measure => simp [intOf]; omega
      · have hk' : k = ns.length := by omega
        subst hk'
        rw [List.take_length, List.length_map] at hown
        have R := hideP hown
        clear hown
        go_wp2
        go_ret
        exact ⟨_, rfl, R.out, hB⟩
/-- mat.Whole's memory is its own. -/
theorem mWholeOF (r c : Int) (p : Option Addr) (n cap : Nat) (ns : List Int) (w : World) (hr : Rq 1 (fun n => [.int .i64 n]) w (.slice p n cap) ns) (h : fitB r c n = true) (hn : ns.length = n) :
    Calls Tryz.prog 27 #[.int .i64 r, .int .i64 c, .slice p n cap] w fun e w' => ∃ g cap', e = .returned (.tuple #[mV r c (some ⟨g, 0, none⟩) n cap', .bool true]) ∧ w'.ownsRow (w.heap.size + 1) 66 3 (.slice (some ⟨g, 0, none⟩) n cap') n ((ns.map wholeF).flatMap cellsF) ∧ Bl w w' := by
  have hl : n ≤ 1000000 ∧ 0 < n := by obtain ⟨R, C, _, _, hd, rfl⟩ := fitB_nat h; have := hd.lt; exact ⟨by omega, Nat.mul_pos hd.r1 hd.c1⟩
  obtain ⟨W, hW⟩ : ∃ W, W = w.alloc (.cells #[.int .i64 0, .int .i64 0, .slice none 0 0] 62) := ⟨_, rfl⟩
  have b0 : Bl w W := by rw [hW]; exact (Bl.refl _).alloc _
  have x0 : MBox W w.heap.size 0 0 none 0 0 := by rw [hW]; exact MBox.new w 0 0 none 0 0 _
  have hsz : W.heap.size = w.heap.size + 1 := by rw [hW]; simp
  have CL := hideP (vWholeOF p n cap ns W (hr.later b0) hn hl.2 hl.1)
  rw [hsz] at CL
  have HW := hideP hW
  clear hW hr
  go_enter Tryz.func27, Tryz.ntmps27
  go_wp2_with fail
  rw [← HW.out]
  refine (fits_any _ _ _ _).mono ?_
  rintro e w1 ⟨rfl, rfl⟩
  rw [h]
  go_wp2_with fail
  refine CL.out.mono ?_
  rintro e w2 ⟨u, rfl, hR, h2⟩
  obtain ⟨g, cap', hu⟩ : ∃ g cap', u = .slice (some ⟨g, 0, none⟩) n cap' := by
    rcases hR.2 with ⟨rfl, e⟩ | ⟨g, cap', cur, rfl, _⟩
    · have := hl.2; omega
    · exact ⟨g, cap', rfl⟩
  subst hu
  have HR := hideP hR
  obtain ⟨c0, c1, c2, f0, f1, f2, lt⟩ := x0.later h2
  clear hR CL
  go_wp2
  simp [bodyPost, results, Tryz.results27, go_sem, c0, c1, c2]
  refine ⟨g, cap', ⟨rfl, rfl⟩, ?_, Bl.put3 (b0.trans h2) (Nat.le_refl _) _ _ _⟩
  exact ownsRow_setCell_below (ownsRow_setCell_below (ownsRow_setCell_below HR.out (a := ⟨w.heap.size, 0, none⟩) (Nat.lt_succ_self _) _) (a := ⟨w.heap.size, 1, none⟩) (Nat.lt_succ_self _) _) (a := ⟨w.heap.size, 2, none⟩) (Nat.lt_succ_self _) _
/-- One number of a row that is owned, set anew. -/
theorem own_putF {w : World} {base g m cap : Nat} {xs : List Fr} (h : w.ownsRow base 66 3 (.slice (some ⟨g, 0, none⟩) m cap) m (xs.flatMap cellsF)) {q : Nat} (hq : q < xs.length) (x : Fr) :
    (((w.setCell ⟨g, q * 3, none⟩ (.int .i64 x.n)).setCell ⟨g, q * 3 + 1, none⟩ (.int .i64 x.d)).setCell ⟨g, q * 3 + 2, none⟩ (.bool x.bad)).ownsRow base 66 3 (.slice (some ⟨g, 0, none⟩) m cap) m ((xs.set q x).flatMap cellsF) := by
  have e := flat_set cellsF_len xs q x hq
  rw [← e]
  have o0 := h
  obtain ⟨o1, g1⟩ := o0.stored (q * 3) (.int .i64 x.n)
  obtain ⟨o2, g2⟩ := o1.stored (q * 3 + 1) (.int .i64 x.d)
  obtain ⟨o3, g3⟩ := o2.stored (q * 3 + 2) (.bool x.bad)
  exact o3

end Go.Proofs.YtlbmkjicbkfmjaaGreat

/- Contracts of tri's Clear, Root, of fractions (layer 7). Written by genTr.py. -/
namespace Go.Proofs.YtlbmkjicbkfmjaaGreat
open Go.RowKit
set_option linter.unusedSimpArgs false
set_option linter.unusedVariables false

theorem Tryz.mDivF (x : Value) (w : World) : (method 332 66 x "Div").run Tryz.prog w = .ok (224, x) w := by kernel_rfl
theorem Tryz.mRootF (x : Value) (w : World) : (method 332 66 x "Root").run Tryz.prog w = .ok (229, x) w := by kernel_rfl
/-- A matrix with z above its diagonal. -/
def clrF (f : Nat → Nat → Fr) (i k : Nat) : Fr := if k ≤ i then f i k else wholeF 0
end Go.Proofs.YtlbmkjicbkfmjaaGreat

/- Contracts of tri's Root, of fractions (layer 7). Written by genTr.py. -/
namespace Go.Proofs.YtlbmkjicbkfmjaaGreat
open Go.RowKit
set_option linter.unusedSimpArgs false
set_option linter.unusedVariables false

/-- What Root tells of a place, of what it is so far. -/
def rootVF (P g : Nat → Nat → Fr) (i k : Nat) : Fr := if i = k then rootR (subR (P i k) (dotF (rowM k g i) (rowM k g k))) else divR (subR (P i k) (dotF (rowM k g i) (rowM k g k))) (g k k)
end Go.Proofs.YtlbmkjicbkfmjaaGreat

/- Where a fold's triangle is fine, in fractions, its square is the square of what was folded (layer 8, HouseExact). Mathematics alone. -/
namespace Go.Proofs.YtlbmkjicbkfmjaaGreat
open Go.RowKit
set_option linter.unusedSimpArgs false
set_option linter.unusedVariables false

/-- Fractions, as a kind. -/
def kdF : Kd Fr := { z := wholeF 0, add := addR, sub := subR, mul := mulR, div := divR, root := rootR, neg := negR, dot := dotF }
theorem neg_q {a : Fr} (h : fineR (negR a) = true) : fineR a = true ∧ toQ (negR a) = -toQ a := by
  obtain ⟨_, h2, h3⟩ := sub_q (a := zR) (b := a) h
  refine ⟨h2, ?_⟩
  rw [show negR a = subR zR a from rfl, h3, toQ_z]
  grind
theorem z_q : toQ (wholeF 0) = 0 := new0_q
theorem tailH_q (m k : Nat) (f : Nat → Fr) : (tailH m k f).map toQ = (List.range (m - k)).map fun j => toQ (f (k + j)) := by unfold tailH; rw [List.map_map]; rfl
theorem dot_tail {m k : Nat} {f g : Nat → Fr} (h : fineR (dotF (tailH m k f) (tailH m k g)) = true) : (∀ c, k ≤ c → c < m → fineR (f c) = true ∧ fineR (g c) = true) ∧ toQ (dotF (tailH m k f) (tailH m k g)) = dT m k (fun c => toQ (f c)) (fun c => toQ (g c)) := by
  obtain ⟨h1, h2⟩ := dot_q h
  refine ⟨fun c h3 h4 => ?_, ?_⟩
  · have hm : mulR (f c) (g c) ∈ List.zipWith mulR (tailH m k f) (tailH m k g) := by
      refine List.mem_of_getElem? (i := c - k) ?_
      unfold tailH
      rw [List.getElem?_zipWith, List.getElem?_map, List.getElem?_map, List.getElem?_range (by omega)]
      simp [show k + (c - k) = c by omega]
    have := mul_q (h1 _ hm)
    exact ⟨this.1, this.2.1⟩
  · rw [h2, tailH_q, tailH_q, dotQ_sumH]
    rfl
/-- A row that has one number alone, at k. -/
theorem dT_one {m k : Nat} {f g : Nat → Rat} (hk : k < m) (h : ∀ c, k < c → c < m → f c = 0) : dT m k f g = f k * g k := by
  unfold dT
  obtain ⟨d, hd⟩ : ∃ d, m - k = 1 + d := ⟨m - k - 1, by omega⟩
  rw [hd, sumH_split]
  rw [sumH_zero d (fun j hj => by rw [h (k + (1 + j)) (by omega) (by omega), Rat.zero_mul])]
  show (0 : Rat) + f (k + 0) * g (k + 0) + 0 = _
  rw [Nat.add_zero, Rat.zero_add, Rat.add_zero]
theorem dT_zero {m k : Nat} {f g : Nat → Rat} (h : ∀ c, k ≤ c → c < m → f c = 0) : dT m k f g = 0 :=
  sumH_zero _ fun j hj => by rw [h (k + j) (by omega) (by omega), Rat.zero_mul]
theorem dT_congr {m k : Nat} {f g f' g' : Nat → Rat} (h : ∀ c, k ≤ c → c < m → f c = f' c) (h2 : ∀ c, k ≤ c → c < m → g c = g' c) : dT m k f g = dT m k f' g' :=
  sumH_congr _ fun j hj => by rw [h (k + j) (by omega) (by omega), h2 (k + j) (by omega) (by omega)]

theorem fold_all {n m : Nat} (hnm : n ≤ m) (σ τ : Nat → Bool) (a : Nat → Nat → Fr) (hT : ∀ i j, i < n → j ≤ i → fineR (foldH kdF n m σ τ a i j) = true) :
    ∀ i j, i < n → j < n → sumH n (fun c => toQ (foldH kdF n m σ τ a i c) * toQ (foldH kdF n m σ τ a j c)) = sumH m fun c => toQ (a i c) * toQ (a j c) := by
  obtain ⟨A, hA⟩ : ∃ A, A = foldTo kdF m σ a := ⟨_, rfl⟩
  have step : ∀ k i j, A (k + 1) i j = foldStep kdF m k (σ k) (A k) i j := fun k i j => by rw [hA]; rfl
  -- what stands below the diagonal at the end
  have an : ∀ i c, i < n → c ≤ i → fineR (A n i c) = true := fun i c hi hc => by
    have h := hT i c hi hc
    unfold foldH signsH at h
    rw [if_neg (by omega), ← hA] at h
    by_cases hl : c ≤ i ∧ τ c = true
    · rw [if_pos hl] at h
      exact (neg_q h).1
    · rw [if_neg hl] at h
      exact h
  have stay : ∀ i c k, i < k ∨ (c < k ∧ c < i) → ∀ d, A (k + d) i c = A k i c := fun i c k h d => by rw [hA]; exact foldTo_stays kdF m σ a h d
  have zero : ∀ i c k, i < k → i < c → A k i c = wholeF 0 := fun i c k h h2 => by rw [hA]; exact foldTo_zero kdF m σ a h h2
  have pk : ∀ k, A (k + 1) k k = pH kdF m k (σ k) (A k) := fun k => by rw [step]; unfold foldStep; rw [if_pos rfl, if_pos rfl]
  have hp : ∀ k, k < n → fineR (pH kdF m k (σ k) (A k)) = true := fun k hk => by
    obtain ⟨d, rfl⟩ := Nat.exists_eq_add_of_le (show k + 1 ≤ n from hk)
    have := an k k (by omega) (Nat.le_refl _)
    rw [stay k k (k + 1) (.inl (by omega)) d, pk] at this
    exact this
  -- the root
  have hroot : ∀ k, k < n → (∀ c, k ≤ c → c < m → fineR (A k k c) = true) ∧ toQ (pH kdF m k (σ k) (A k)) * toQ (pH kdF m k (σ k) (A k)) = dT m k (fun c => toQ (A k k c)) (fun c => toQ (A k k c)) := fun k hk => by
    have h := hp k hk
    obtain ⟨s, hs⟩ : ∃ s, s = rootR (dotF (tailH m k (A k k)) (tailH m k (A k k))) := ⟨_, rfl⟩
    have hps : fineR s = true ∧ toQ (pH kdF m k (σ k) (A k)) * toQ (pH kdF m k (σ k) (A k)) = toQ s * toQ s := by
      unfold pH at h ⊢
      by_cases hl : σ k = true
      · rw [if_pos hl] at h ⊢
        rw [hs]
        exact ⟨h, rfl⟩
      · rw [if_neg hl] at h ⊢
        obtain ⟨h1, h2⟩ := neg_q h
        rw [hs]
        refine ⟨h1, ?_⟩
        have h3 : toQ (kdF.neg (kdF.root (kdF.dot (tailH m k (A k k)) (tailH m k (A k k))))) = -toQ (rootR (dotF (tailH m k (A k k)) (tailH m k (A k k)))) := h2
        rw [h3]
        grind
    have hr := root_q (a := dotF (tailH m k (A k k)) (tailH m k (A k k))) (by rw [← hs]; exact hps.1)
    obtain ⟨h1, h2⟩ := dot_tail hr.1
    refine ⟨fun c hc hm => (h1 c hc hm).1, ?_⟩
    rw [hps.2, hs, hr.2.1, h2]
  -- rows that are still to come
  have rowi : ∀ i, i < n → ∀ c, c < m → fineR (A i i c) = true := fun i hi c hc => by
    by_cases h : c < i
    · obtain ⟨d, hd⟩ := Nat.exists_eq_add_of_le (show i ≤ n by omega)
      have := an i c hi (by omega)
      rw [hd, stay i c i (.inr ⟨h, h⟩) d] at this
      exact this
    · exact (hroot i hi).1 c (by omega) hc
  have down : ∀ k i, k < i → (∀ c, c < m → fineR (A (k + 1) i c) = true) → (∀ c, c < m → fineR (A k i c) = true) ∧ (k < m → fineR (tH kdF m k (σ k) (A k) i) = true ∧ ∀ c, k ≤ c → c < m → fineR (vH kdF m k (σ k) (A k) c) = true ∧ toQ (A (k + 1) i c) = toQ (A k i c) - toQ (vH kdF m k (σ k) (A k) c) * toQ (tH kdF m k (σ k) (A k) i)) := fun k i hk h => by
    have e : ∀ c, k ≤ c → A (k + 1) i c = subR (A k i c) (mulR (vH kdF m k (σ k) (A k) c) (tH kdF m k (σ k) (A k) i)) := fun c hc => by
      rw [step]; unfold foldStep; rw [if_neg (by omega), if_pos ⟨hk, hc⟩]; rfl
    have q : ∀ c, k ≤ c → c < m → fineR (A k i c) = true ∧ fineR (vH kdF m k (σ k) (A k) c) = true ∧ fineR (tH kdF m k (σ k) (A k) i) = true ∧ toQ (A (k + 1) i c) = toQ (A k i c) - toQ (vH kdF m k (σ k) (A k) c) * toQ (tH kdF m k (σ k) (A k) i) := fun c hc hm => by
      have h1 := h c hm
      rw [e c hc] at h1 ⊢
      obtain ⟨g1, g2, g3⟩ := sub_q h1
      obtain ⟨g4, g5, g6⟩ := mul_q g2
      exact ⟨g1, g4, g5, by rw [g3, g6]⟩
    refine ⟨fun c hc => ?_, fun hm => ⟨(q k (Nat.le_refl _) hm).2.2.1, fun c h1 h2 => ⟨(q c h1 h2).2.1, (q c h1 h2).2.2.2⟩⟩⟩
    by_cases h2 : k ≤ c
    · exact (q c h2 hc).1
    · have := h c hc
      rw [step] at this
      unfold foldStep at this
      rwa [if_neg (by omega), if_neg (by omega)] at this
  have rows : ∀ d k i, k + d = i → i < n → ∀ c, c < m → fineR (A k i c) = true := by
    intro d
    induction d with
    | zero =>
      intro k i h hi
      obtain rfl : k = i := by omega
      exact rowi k hi
    | succ d ih => intro k i h hi; exact (down k i (by omega) (ih (k + 1) i (by omega) hi)).1
  -- one step's rational numbers
  have vk : ∀ k i, k < i → i < n → toQ (vH kdF m k (σ k) (A k) k) = toQ (A k k k) - toQ (pH kdF m k (σ k) (A k)) ∧ (∀ c, k < c → vH kdF m k (σ k) (A k) c = A k k c) ∧
      toQ (tH kdF m k (σ k) (A k) i) * dT m k (fun c => toQ (vH kdF m k (σ k) (A k) c)) (fun c => toQ (vH kdF m k (σ k) (A k) c)) = dT m k (fun c => toQ (A k i c)) (fun c => toQ (vH kdF m k (σ k) (A k) c)) + dT m k (fun c => toQ (A k i c)) (fun c => toQ (vH kdF m k (σ k) (A k) c)) ∧
      dT m k (fun c => toQ (vH kdF m k (σ k) (A k) c)) (fun c => toQ (vH kdF m k (σ k) (A k) c)) ≠ 0 := fun k i hk hi => by
    obtain ⟨_, hd⟩ := down k i hk (rows (i - (k + 1)) (k + 1) i (by omega) hi)
    obtain ⟨ht, hv⟩ := hd (by omega)
    have h1 := (hv k (Nat.le_refl _) (by omega)).1
    refine ⟨?_, fun c hc => by unfold vH; rw [if_neg (by omega)], ?_⟩
    · unfold vH at h1 ⊢
      rw [if_pos rfl] at h1 ⊢
      exact (sub_q h1).2.2
    · obtain ⟨g1, g2, g3, g4⟩ := div_q (a := addR (dotF (tailH m k (A k i)) (tailH m k (vH kdF m k (σ k) (A k)))) (dotF (tailH m k (A k i)) (tailH m k (vH kdF m k (σ k) (A k))))) (b := dotF (tailH m k (vH kdF m k (σ k) (A k))) (tailH m k (vH kdF m k (σ k) (A k)))) ht
      have g5 := div_mul_q (a := addR (dotF (tailH m k (A k i)) (tailH m k (vH kdF m k (σ k) (A k)))) (dotF (tailH m k (A k i)) (tailH m k (vH kdF m k (σ k) (A k))))) (b := dotF (tailH m k (vH kdF m k (σ k) (A k))) (tailH m k (vH kdF m k (σ k) (A k)))) ht
      obtain ⟨g6, _, g7⟩ := add_q g1
      rw [(dot_tail g2).2] at g3 g5
      rw [g7, (dot_tail g6).2] at g5
      exact ⟨g5, g3⟩
  -- both rows behind one step
  have keep : ∀ k i j, k < n → i < n → j < n → i ≤ j → dT m k (fun c => toQ (A (k + 1) i c)) (fun c => toQ (A (k + 1) j c)) = dT m k (fun c => toQ (A k i c)) (fun c => toQ (A k j c)) := fun k i j hk hi hj hij => by
    have new : ∀ j, k < j → j < n → ∀ c, k ≤ c → c < m → toQ (A (k + 1) j c) = toQ (A k j c) - toQ (vH kdF m k (σ k) (A k) c) * toQ (tH kdF m k (σ k) (A k) j) := fun j h hj c hc hm => by
      obtain ⟨_, hd⟩ := down k j h (rows (j - (k + 1)) (k + 1) j (by omega) hj)
      exact ((hd (by omega)).2 c hc hm).2
    by_cases h1 : i < k
    · have e : A (k + 1) i = A k i := by funext c; exact stay i c k (.inl h1) 1
      rw [e, dT_zero (fun c h2 _ => by rw [zero i c k h1 (by omega)]; exact z_q), dT_zero (fun c h2 _ => by rw [zero i c k h1 (by omega)]; exact z_q)]
    · by_cases h2 : i = k
      · subst h2
        have hz : ∀ c, i < c → c < m → toQ (A (i + 1) i c) = 0 := fun c h _ => by rw [zero i c (i + 1) (by omega) h]; exact z_q
        rw [dT_one (by omega) hz, pk]
        by_cases h3 : j = i
        · subst h3
          rw [pk]
          exact (hroot j hj).2
        · have hji : i < j := by omega
          obtain ⟨v1, v2, v3, _⟩ := vk i j hji hj
          rw [new j hji hj i (Nat.le_refl _) (by omega)]
          have hr := (hroot i hk).2
          obtain ⟨p, hpp⟩ : ∃ p, p = toQ (pH kdF m i (σ i) (A i)) := ⟨_, rfl⟩
          obtain ⟨t, htt⟩ : ∃ t, t = toQ (tH kdF m i (σ i) (A i) j) := ⟨_, rfl⟩
          rw [← hpp] at hr v1 ⊢
          rw [← htt] at v3 ⊢
          -- v is x, less p at i
          have ev : ∀ g : Nat → Rat, dT m i (fun c => toQ (vH kdF m i (σ i) (A i) c)) g = dT m i (fun c => toQ (A i i c)) g - p * g i := fun g => by
            rw [dT_congr (f' := fun c => toQ (A i i c) - (if c = i then (1 : Rat) else 0) * p) (g' := g) (fun c h4 h5 => by
              by_cases hc : c = i
              · subst hc; rw [v1, if_pos rfl]; grind
              · rw [v2 c (by omega), if_neg hc]; grind) (fun _ _ _ => rfl)]
            rw [dT_subl, dT_one (f := fun c => if c = i then (1 : Rat) else 0) (by omega) (fun c h4 _ => if_neg (by omega)), if_pos rfl]
            grind
          have e1 := ev (fun c => toQ (A i j c))
          have e2 := ev (fun c => toQ (vH kdF m i (σ i) (A i) c))
          have e3 := ev (fun c => toQ (A i i c))
          rw [dT_comm m i (fun c => toQ (A i i c)) (fun c => toQ (vH kdF m i (σ i) (A i) c))] at e2
          rw [dT_comm m i (fun c => toQ (A i j c)) (fun c => toQ (vH kdF m i (σ i) (A i) c))] at v3
          rw [v1] at e2 ⊢
          rw [e3] at e2
          rw [e2] at v3
          rw [← hr] at v3
          rw [e1] at v3
          grind
      · obtain ⟨_, _, v3, v4⟩ := vk k i (by omega) hi
        obtain ⟨_, _, v5, _⟩ := vk k j (by omega) hj
        rw [dT_congr (fun c h3 h4 => new i (by omega) hi c h3 h4) (fun c h3 h4 => new j (by omega) hj c h3 h4)]
        exact dT_fold v4 v3 v5
  have gram : ∀ k, k ≤ n → ∀ i j, i < n → j < n → i ≤ j → sumH m (fun c => toQ (A k i c) * toQ (A k j c)) = sumH m fun c => toQ (a i c) * toQ (a j c) := by
    intro k
    induction k with
    | zero => intro _ i j _ _ _; rw [hA]; rfl
    | succ k ih =>
      intro hk i j hi hj hij
      rw [← ih (by omega) i j hi hj hij]
      have hm : m = k + (m - k) := by omega
      have old : ∀ i c, c < k → A (k + 1) i c = A k i c := fun i c hc => by
        rw [step]; unfold foldStep
        by_cases h : i = k
        · rw [if_pos h, if_neg (by omega), if_neg (by omega)]
        · rw [if_neg h, if_neg (by omega)]
      have hs : ∀ f : Nat → Rat, sumH m f = sumH k f + sumH (m - k) fun j => f (k + j) := fun f => by
        have := sumH_split f k (m - k)
        rw [← hm] at this
        exact this
      rw [hs, hs, sumH_congr k (g := fun c => toQ (A k i c) * toQ (A k j c)) fun c hc => by rw [old i c hc, old j c hc]]
      congr 1
      exact keep k i j (by omega) hi hj hij
  -- the end
  have fin : ∀ i j, i < n → j < n → i ≤ j → sumH n (fun c => toQ (foldH kdF n m σ τ a i c) * toQ (foldH kdF n m σ τ a j c)) = sumH m fun c => toQ (a i c) * toQ (a j c) := fun i j hi hj hij => by
    rw [← gram n (Nat.le_refl _) i j hi hj hij]
    obtain ⟨d, hd⟩ := Nat.exists_eq_add_of_le hnm
    rw [hd, sumH_split, sumH_zero d (fun c hc => by rw [zero i (n + c) n hi (by omega), z_q, Rat.zero_mul]), Rat.add_zero]
    refine sumH_congr n fun c hc => ?_
    by_cases h : i < c
    · rw [zero i c n hi h, z_q, Rat.zero_mul]
      unfold foldH
      rw [if_pos h]
      show toQ (wholeF 0) * _ = 0
      rw [z_q, Rat.zero_mul]
    · have one : ∀ i, i < n → c ≤ i → toQ (foldH kdF n m σ τ a i c) = (if τ c = true then -1 else 1) * toQ (A n i c) := fun i hi h => by
        have hf := hT i c hi h
        unfold foldH signsH at hf ⊢
        rw [← hd, ← hA] at *
        rw [if_neg (by omega)] at hf ⊢
        by_cases hl : τ c = true
        · rw [if_pos ⟨h, hl⟩] at hf ⊢
          rw [if_pos hl]
          have := (neg_q hf).2
          show toQ (negR (A n i c)) = _
          rw [this]
          grind
        · rw [if_neg (fun hh => hl hh.2)] at hf ⊢
          rw [if_neg hl]
          grind
      rw [← hd] at *
      rw [one i hi (by omega), one j hj (by omega)]
      by_cases hl : τ c = true
      · rw [if_pos hl]; grind
      · rw [if_neg hl]; grind
  intro i j hi hj
  by_cases h : i ≤ j
  · exact fin i j hi hj h
  · rw [sumH_congr n (g := fun c => toQ (foldH kdF n m σ τ a j c) * toQ (foldH kdF n m σ τ a i c)) fun c _ => Rat.mul_comm _ _, fin j i hj hi (by omega)]
    exact sumH_congr m fun c _ => Rat.mul_comm _ _
end Go.Proofs.YtlbmkjicbkfmjaaGreat

/- An append of what is told of two values to a row, of fractions: a region that draws its order (layer 6). Written by genMa.py. -/
namespace Go.Proofs.YtlbmkjicbkfmjaaGreat
open Go.RowKit Go.Shelf
set_option linter.unusedSimpArgs false
set_option linter.unusedVariables false

theorem Tryz.load1F (B : Nat) (v : Value) (u : World) (h : u.cell? ⟨B, 0, none⟩ = some v) : (Instr.loadAt 60 (.pointer (some ⟨B, 0, none⟩))).run Tryz.prog u = .ok v u := by
  simp [go_sem, h]
theorem Tryz.store1F (B : Nat) (p : Option Addr) (n cap : Nat) (v : Value) (u : World) (h : u.cell? ⟨B, 0, none⟩ = some v) (hf : u.frozen? ⟨B, 0, none⟩ = false) : (Instr.storeAt 60 (.pointer (some ⟨B, 0, none⟩)) (.slice p n cap)).run Tryz.prog u = .ok () (u.setCell ⟨B, 0, none⟩ (.slice p n cap)) := by
  simp [go_sem, h, hf]
theorem Tryz.build1F (x : Fr) (u : World) : (Instr.buildSlice 60 1 #[(0, frV x)]).run Tryz.prog u = .ok (.slice (some ⟨u.heap.size, 0, none⟩) 1 1) (u.alloc (.cells #[.int .i64 x.n, .int .i64 x.d, .bool x.bad] 66)) := by
  simp [go_sem]
/-- Between two of its operations. -/
def DotIF (d : Nat) (a : Act) (W : World) (v v1 v2 : Value) (z : Fr) (base : Nat) (xs : List Fr) (B : Nat) (L : Nat → Bool) (act : Act) (u : World) : Prop :=
  a.tmps.size = act.tmps.size ∧ (∀ s, s < d → act.eval (.tmp s) = a.eval (.tmp s)) ∧ (L 3 = true → L 1 = true ∧ L 2 = true) ∧ (L 4 = true → L 3 = true) ∧ (L 5 = true → L 0 = true ∧ L 4 = true) ∧ (L 6 = true → L 5 = true)
    ∧ (L 5 = false → Bl W u ∧ (L 0 = true → act.eval (.tmp d) = v) ∧ (L 1 = true → act.eval (.tmp (d + 1)) = v1) ∧ (L 2 = true → act.eval (.tmp (d + 2)) = v2) ∧ (L 3 = true → act.eval (.tmp (d + 3)) = frV z) ∧ (L 4 = true → ∃ g, act.eval (.tmp (d + 4)) = .slice (some ⟨g, 0, none⟩) 1 1 ∧ FBox u g z))
    ∧ (L 5 = true → ∃ u0 w5 g' cap', Bl W u0 ∧ u0.grownBy w5 v.ownBlock ∧ w5.ownsRow base 66 3 (.slice (some ⟨g', 0, none⟩) (xs.length + 1) cap') (xs.length + 1) (xs.flatMap cellsF ++ cellsF z) ∧ (some g' = v.ownBlock ∨ g' = u0.heap.size)
        ∧ (L 6 = false → u = w5 ∧ act.eval (.tmp (d + 5)) = .slice (some ⟨g', 0, none⟩) (xs.length + 1) cap') ∧ (L 6 = true → u = w5.setCell ⟨B, 0, none⟩ (.slice (some ⟨g', 0, none⟩) (xs.length + 1) cap')))
set_option maxHeartbeats 1000000 in
theorem dotAppendF {F : Fence} {m : Nat} {ops : Array Oper} {o0 o1 o2 o3 o4 o5 o6 : Oper} {Q : Exit → Act → World → Prop} {a : Act} {W : World} {id : Nat} (hops : ops = #[o0, o1, o2, o3, o4, o5, o6]) (hlow : lowB ops = true) (d sL fD : Nat) (hsz : d + 6 ≤ a.tmps.size) (hsL : sL < d)
    (g0 : o0.guard = none ∧ o0.dst = some d ∧ o0.op = .load 60 (.tmp sL)) (g1 : o1.guard = none ∧ o1.dst = some (d + 1)) (g2 : o2.guard = none ∧ o2.dst = some (d + 2))
    (g3 : o3.guard = none ∧ o3.dst = some (d + 3) ∧ o3.op = .call { callee := .value (.func fD), args := #[.tmp (d + 1), .tmp (d + 2)], argTypes := #[60, 60] })
    (g4 : o4.guard = none ∧ o4.dst = some (d + 4) ∧ o4.op = .buildSlice 60 1 #[(0, .tmp (d + 3))])
    (g5 : o5.guard = none ∧ o5.dst = some (d + 5) ∧ o5.op = .call { callee := .builtin .append, args := #[.tmp d, .tmp (d + 4)], argTypes := #[60, 60] })
    (g6 : o6.guard = none ∧ o6.dst = none ∧ o6.op = .store 60 (.tmp sL) (.tmp (d + 5)))
    (e3 : (⟨1, .data⟩ : Edge) ∈ o3.after ∧ (⟨2, .data⟩ : Edge) ∈ o3.after) (e4 : (⟨3, .data⟩ : Edge) ∈ o4.after) (e5 : (⟨0, .data⟩ : Edge) ∈ o5.after ∧ (⟨4, .data⟩ : Edge) ∈ o5.after) (e6 : (⟨5, .data⟩ : Edge) ∈ o6.after)
    (v1 v2 : Value) (h1 : ∀ (act : Act) (u : World) (K : Act → World → Prop), (∀ s, s < d → act.eval (.tmp s) = a.eval (.tmp s)) → Bl W u → K (act.put (some (d + 1)) v1) u → Oper.wpIn F m Tryz.prog o1 act u K Q)
    (h2 : ∀ (act : Act) (u : World) (K : Act → World → Prop), (∀ s, s < d → act.eval (.tmp s) = a.eval (.tmp s)) → Bl W u → K (act.put (some (d + 2)) v2) u → Oper.wpIn F m Tryz.prog o2 act u K Q)
    (hF : F.fn fD) (hdep : F.depth.isSome = true → 1 ≤ m) (eg : ∀ args w, (callFunc fD args).run Tryz.prog w = .ok (.enter fD args) w) (z : Fr)
    (hC : ∀ u, Bl W u → CallsIn F (m - 1) Tryz.prog fD #[v1, v2] u fun e w' => e = .returned (frV z) ∧ Bl u w')
    (B : Nat) (hB : a.eval (.tmp sL) = .pointer (some ⟨B, 0, none⟩)) (v : Value) (hv : Boxed W B 60 v) (base : Nat) (xs : List Fr) (hown : W.ownsRow base 66 3 v xs.length (xs.flatMap cellsF)) (hlen : xs.length ≤ 100000) (hbase : base ≤ W.heap.size)
    (fin : ∀ act u0 w5 g' cap', Bl W u0 → u0.grownBy w5 v.ownBlock → w5.ownsRow base 66 3 (.slice (some ⟨g', 0, none⟩) (xs.length + 1) cap') (xs.length + 1) (xs.flatMap cellsF ++ cellsF z) → (some g' = v.ownBlock ∨ g' = u0.heap.size) → Q .normal act (w5.setCell ⟨B, 0, none⟩ (.slice (some ⟨g', 0, none⟩) (xs.length + 1) cap'))) :
    (Code.region id ops true).wpIn F m Tryz.prog Q a W := by
  obtain ⟨i0, hi, hz0, hz1, hz2⟩ := info_parts Tryz.info_F
  have fm : Tryz.prog.follows .mixedOrders = true := by kernel_rfl
  refine region_facts fm (lowB_low hlow) (DotIF d a W v v1 v2 z base xs B) ?_ ?_ ?_
  · exact ⟨rfl, fun _ _ => rfl, nofun, nofun, nofun, nofun, fun _ => ⟨(Bl.refl _).drew, nofun, nofun, nofun, nofun, nofun⟩, nofun⟩
  · intro L act u i o ⟨hs, hfr, c3, c4, c5, c6, hpre, hpost⟩ ho hLi hall
    have hlt : i < 7 := by have := (Array.getElem?_eq_some_iff.1 ho).1; rw [hops] at this; simpa using this
    have sv : ∀ (e : Nat) (x : Value), e < act.tmps.size → (act.put (some e) x).eval (.tmp e) = x := fun e x h => eval_put_same h
    have ne5 : (L 5 = true → False) → L 5 = false := fun h => by cases hh : L 5 <;> simp_all
    have fr : ∀ (e : Nat) (x : Value), d ≤ e → ∀ s, s < d → (act.put (some e) x).eval (.tmp s) = a.eval (.tmp s) := fun e x he s hs => by rw [eval_put_other (by omega)]; exact hfr s hs
    rcases (by omega : i = 0 ∨ i = 1 ∨ i = 2 ∨ i = 3 ∨ i = 4 ∨ i = 5 ∨ i = 6) with rfl | rfl | rfl | rfl | rfl | rfl | rfl
    · obtain rfl : o = o0 := by rw [hops] at ho; simpa using ho.symm
      have l5 : L 5 = false := ne5 fun h => by rw [(c5 h).1] at hLi; cases hLi
      obtain ⟨hb, p0, p1, p2, p3, p4⟩ := hpre l5
      refine step_wp ho g0.1 (load_wp _ _ g0.2.2 (v := v) (by rw [hfr _ hsL, hB]; exact Tryz.load1F B v u (boxed_bl hv hb).cell) ?_)
      rw [g0.2.1]
      refine ⟨by rw [size_put]; exact hs, fr _ _ (Nat.le_refl _), by simpa using c3, by simpa using c4, by simp [l5], by simpa using c6, fun _ => ⟨hb, fun _ => sv _ _ (by omega), ?_, ?_, ?_, ?_⟩, by simp [l5]⟩
      all_goals (simp only [Nat.reduceEqDiff, Nat.reduceBEq, Bool.or_false]; intro h; rw [eval_put_other (by omega)])
      · exact p1 h
      · exact p2 h
      · exact p3 h
      · exact p4 h
    · obtain rfl : o = o1 := by rw [hops] at ho; simpa using ho.symm
      have l3 : L 3 = false := by cases hh : L 3 <;> simp_all
      have l4 : L 4 = false := by cases hh : L 4 <;> simp_all
      have l5 : L 5 = false := ne5 fun h => by rw [(c5 h).2] at l4; cases l4
      obtain ⟨hb, p0, p1, p2, p3, p4⟩ := hpre l5
      refine step_wp ho g1.1 (h1 act u _ hfr hb ?_)
      refine ⟨by rw [size_put]; exact hs, fr _ _ (by omega), by simp [l3], by simp [l4], by simp [l5], by simpa using c6, fun _ => ⟨hb, ?_, fun _ => sv _ _ (by omega), ?_, by simp [l3], by simp [l4]⟩, by simp [l5]⟩
      all_goals (simp only [Nat.reduceEqDiff, Nat.reduceBEq, Bool.or_false]; intro h; rw [eval_put_other (by omega)])
      · exact p0 h
      · exact p2 h
    · obtain rfl : o = o2 := by rw [hops] at ho; simpa using ho.symm
      have l3 : L 3 = false := by cases hh : L 3 <;> simp_all
      have l4 : L 4 = false := by cases hh : L 4 <;> simp_all
      have l5 : L 5 = false := ne5 fun h => by rw [(c5 h).2] at l4; cases l4
      obtain ⟨hb, p0, p1, p2, p3, p4⟩ := hpre l5
      refine step_wp ho g2.1 (h2 act u _ hfr hb ?_)
      refine ⟨by rw [size_put]; exact hs, fr _ _ (by omega), by simp [l3], by simp [l4], by simp [l5], by simpa using c6, fun _ => ⟨hb, ?_, ?_, fun _ => sv _ _ (by omega), by simp [l3], by simp [l4]⟩, by simp [l5]⟩
      all_goals (simp only [Nat.reduceEqDiff, Nat.reduceBEq, Bool.or_false]; intro h; rw [eval_put_other (by omega)])
      · exact p0 h
      · exact p1 h
    · obtain rfl : o = o3 := by rw [hops] at ho; simpa using ho.symm
      have l1 : L 1 = true := hall _ e3.1 rfl
      have l2 : L 2 = true := hall _ e3.2 rfl
      have l4 : L 4 = false := by cases hh : L 4 <;> simp_all
      have l5 : L 5 = false := ne5 fun h => by rw [(c5 h).2] at l4; cases l4
      obtain ⟨hb, p0, p1, p2, p3, p4⟩ := hpre l5
      refine step_wp ho g3.1 (call2_wp fD _ _ _ g3.2.2 hF hdep eg (by rw [p1 l1, p2 l2]; exact hC u hb) ?_)
      rintro e w' ⟨rfl, hb'⟩
      refine ⟨_, rfl, ?_⟩
      rw [g3.2.1]
      refine ⟨by rw [size_put]; exact hs, fr _ _ (by omega), by simp [l1, l2], by simp [l4], by simp [l5], by simpa using c6, fun _ => ⟨hb.trans hb', ?_, ?_, ?_, fun _ => sv _ _ (by omega), by simp [l4]⟩, by simp [l5]⟩
      all_goals (simp only [Nat.reduceEqDiff, Nat.reduceBEq, Bool.or_false]; intro h; rw [eval_put_other (by omega)])
      · exact p0 h
      · exact p1 h
      · exact p2 h
    · obtain rfl : o = o4 := by rw [hops] at ho; simpa using ho.symm
      have l3 : L 3 = true := hall _ e4 rfl
      have l5 : L 5 = false := ne5 fun h => by rw [(c5 h).2] at hLi; cases hLi
      obtain ⟨hb, p0, p1, p2, p3, p4⟩ := hpre l5
      refine step_wp ho g4.1 (build_wp _ _ g4.2.2 (by rw [p3 l3]; exact Tryz.build1F z u) ?_)
      rw [g4.2.1]
      refine ⟨by rw [size_put]; exact hs, fr _ _ (by omega), by simpa using c3, by simp [l3], by simp [l5], by simpa using c6, fun _ => ⟨hb.alloc _, ?_, ?_, ?_, ?_, fun _ => ⟨u.heap.size, sv _ _ (by omega), FBox.new u z _⟩⟩, by simp [l5]⟩
      all_goals (simp only [Nat.reduceEqDiff, Nat.reduceBEq, Bool.or_false]; intro h; rw [eval_put_other (by omega)])
      · exact p0 h
      · exact p1 h
      · exact p2 h
      · exact p3 h
    · obtain rfl : o = o5 := by rw [hops] at ho; simpa using ho.symm
      have l0 : L 0 = true := hall _ e5.1 rfl
      have l4 : L 4 = true := hall _ e5.2 rfl
      have l6 : L 6 = false := by cases hh : L 6 <;> simp_all
      obtain ⟨hb, p0, p1, p2, p3, p4⟩ := hpre hLi
      obtain ⟨g, hg, bz⟩ := p4 l4
      refine step_wp ho g5.1 (stepIn_append (.tmp d) (.tmp (d + 4)) 60 g5.2.2 base 66 i0 (.agg #[.int .i64 0, .int .i64 0, .bool false]) 3 24 Tryz.underlying60 hi hz0 hz1 hz2 rfl (by decide) v xs.length (xs.flatMap cellsF) (p0 l0) (own_blF hown hb) ⟨g, 0, none⟩ 1 1 (cellsF z) hg rfl bz.cells (oneF_cells _) (by unfold maxLen; omega) (by omega) (by have := hb.size; omega) ?_)
      intro v' w5 hown' hgrow hat
      obtain ⟨g', cap', rfl⟩ := ownsRow_succ hown'
      rw [g5.2.1]
      refine ⟨by rw [size_put]; exact hs, fr _ _ (by omega), by simpa using c3, by simpa using c4, by simp [l0, l4], by simp [l6], by simp, fun _ => ⟨u, w5, g', cap', hb, hgrow, hown', ?_, fun _ => ⟨rfl, sv _ _ (by omega)⟩, by simp [l6]⟩⟩
      rcases hat with h | h
      · exact .inl h
      · exact .inr (by simpa [Value.ownBlock] using h)
    · obtain rfl : o = o6 := by rw [hops] at ho; simpa using ho.symm
      have l5 : L 5 = true := hall _ e6 rfl
      obtain ⟨u0, w5, g', cap', k1, k2, k3, k4, k5, _⟩ := hpost l5
      obtain ⟨rfl, ev⟩ := k5 hLi
      have hv5 : Boxed u B 60 v := (boxed_bl hv k1).kept k2 ((boxed_bl hv k1).not_row (by decide) (own_blF hown k1))
      refine step_wp ho g6.1 (store_wp _ _ _ g6.2.2 (by rw [hfr _ hsL, hB, ev]; exact Tryz.store1F B _ _ _ v u hv5.cell hv5.frozen) ?_)
      rw [g6.2.1]
      exact ⟨by rw [size_put]; exact hs, fun s hs => hfr s hs, by simpa using c3, by simpa using c4, by simpa using c5, by simp [l5], by simp [l5], fun _ => ⟨u0, u, g', cap', k1, k2, k3, k4, by simp, fun _ => rfl⟩⟩
  · intro L act u ⟨hs, hfr, c3, c4, c5, c6, hpre, hpost⟩ hL
    have hL' : ∀ j, j < 7 → L j = true := fun j hj => hL j (by rw [hops]; simpa using hj)
    obtain ⟨u0, w5, g', cap', k1, k2, k3, k4, _, k6⟩ := hpost (hL' 5 (by omega))
    rw [k6 (hL' 6 (by omega))]
    exact fin act u0 w5 g' cap' k1 k2 k3 k4
end Go.Proofs.YtlbmkjicbkfmjaaGreat

/- mat's Mul, of fractions (layer 6). Written by genMa.py. -/
namespace Go.Proofs.YtlbmkjicbkfmjaaGreat
open Go.RowKit Go.Shelf
set_option linter.unusedSimpArgs false
set_option linter.unusedVariables false
attribute [local go_sem] Oper.semAt_some

/-- A product's number. -/
def mulMF (M : Nat) (f g : Nat → Nat → Fr) (i k : Nat) : Fr := dotF (rowM M f i) (colM M g k)
theorem own_blTF {w w' : World} {B n : Nat} {v : Value} {l : List Value} (h : w.ownsRow B 66 3 v n l) (k : Bl w w') : w'.ownsRow B 66 3 v n l := own_blF h k
set_option maxRecDepth 100000 in
set_option maxHeartbeats 4000000 in
theorem mMulF (R M D : Nat) (p : Option Addr) (n cap : Nat) (f : Nat → Nat → Fr) (q : Option Addr) (n2 cap2 : Nat) (g : Nat → Nat → Fr) (N : Nat) (w : World) (hx : Mx 3 cellsF w R M p n cap f) (hy : Mx 3 cellsF w M D q n2 cap2 g) (hN : N = R * D) :
    Calls Tryz.prog 113 #[mV R M p n cap, mV M D q n2 cap2] w fun e w' => ∃ p' cap', e = .returned (.tuple #[mV R D p' N cap', .bool true]) ∧ (Mx 3 cellsF w' R D p' N cap' (mulMF M f g) ∧ Rw 3 cellsF w' (.slice p' N cap') (mk R D (mulMF M f g)) ∧ Fresh w.heap.size (.slice p' N cap')) ∧ Bl w w' := by
  obtain ⟨i0, hi, hz0, hz1, hz2⟩ := info_parts Tryz.info_F
  refine (callsIn_wide (n := 8)).1 ?_
  have hfx := hx.fit
  have hfy := hy.fit
  have hdR := hx.1
  have hdD := hy.1
  have hRD : (R : Int) * (D : Int) = N := by rw [hN]; simp
  have hN256 : N ≤ 256 := by rw [hN]; exact Nat.mul_le_mul hdR.r2 hdD.c2
  have hM16 := hdR.c2
  have HN := hideP hN
  have HXm := hideP hx
  have HYm := hideP hy
  clear hN hx hy
  obtain ⟨W, hW⟩ : ∃ W, W = ((w.alloc (.cells #[.int .i64 R, .int .i64 M, .slice p n cap] 62)).alloc (.cells #[.int .i64 M, .int .i64 D, .slice q n2 cap2] 62)).alloc (.cells #[.int .i64 0, .int .i64 0, .slice none 0 0] 62) := ⟨_, rfl⟩
  have b0 : Bl w W := by rw [hW]; exact (((Bl.refl _).alloc _).alloc _).alloc _
  have mx0 : MBox W w.heap.size R M p n cap := by rw [hW]; exact (MBox.new w _ _ _ _ _ _).later (((Bl.refl _).alloc _).alloc _)
  have my0 : MBox W (w.heap.size + 1) M D q n2 cap2 := by rw [hW]; have := (MBox.new (w.alloc (.cells #[.int .i64 R, .int .i64 M, .slice p n cap] 62)) M D q n2 cap2 62); rw [World.size_alloc] at this; exact this.later ((Bl.refl _).alloc _)
  have mz0 : MBox W (w.heap.size + 1 + 1) 0 0 none 0 0 := by rw [hW]; have := MBox.new ((w.alloc (.cells #[.int .i64 R, .int .i64 M, .slice p n cap] 62)).alloc (.cells #[.int .i64 M, .int .i64 D, .slice q n2 cap2] 62)) 0 0 none 0 0 62; rw [World.size_alloc, World.size_alloc] at this; exact this
  have hs0 : W.heap.size = w.heap.size + 1 + 1 + 1 := by rw [hW]; simp
  have HW := hideP hW
  clear hW
  refine callsIn_of_wp_marks Tryz.func113 rfl trivial ?_ rfl
  simp only [Tryz.ntmps113, List.size_toArray, List.length_cons, List.length_nil, Nat.reduceAdd, Nat.reduceSub, Array.replicate_succ, Array.replicate_zero, List.push_toArray, List.append_toArray, List.nil_append, List.cons_append]
  gi_wp2_with fail
  rw [← HW.out]
  refine ⟨trivial, ?_⟩
  refine (callsIn_wide.2 (mRightF _ _ _ _ _ _)).mono ?_
  rintro e w1 ⟨rfl, h1⟩
  rw [hfx]
  have mx1 := mx0.later h1
  have my1 := my0.later h1
  obtain ⟨d0, d1, d2, u0, u1, u2, ltm⟩ := my1
  obtain ⟨c0, c1, c2, f0, f1, f2, lt⟩ := mx1
  gi_wp2_with fail
  refine ⟨trivial, ?_⟩
  refine (callsIn_wide.2 (mRightF _ _ _ _ _ _)).mono ?_
  rintro e w2 ⟨rfl, h2⟩
  rw [hfy]
  clear c0 c1 c2 f0 f1 f2 d0 d1 d2 u0 u1 u2 lt ltm
  obtain ⟨c0, c1, c2, f0, f1, f2, lt⟩ := mx0.later (h1.trans h2)
  obtain ⟨d0, d1, d2, u0, u1, u2, ltm⟩ := my0.later (h1.trans h2)
  gi_wp2_with fail
  refine ⟨trivial, ?_⟩
  refine (callsIn_wide.2 (mTurnF _ _ _ _ _ g _ (HYm.out.later ((b0.trans h1).trans h2)))).mono ?_
  rintro e w3 ⟨q1, cap3, rfl, ⟨hT, _, _⟩, h3⟩
  have HT := hideP hT
  clear hT c0 c1 c2 f0 f1 f2 d0 d1 d2 u0 u1 u2 lt ltm
  gi_wp2_with fail
  refine ⟨trivial, ?_⟩
  refine (callsIn_wide.2 (mAllF _ _ _ _ _ _ _ HT.out)).mono ?_
  rintro e w4 ⟨B1, q2, cap4, rfl, hK4, h4⟩
  have HK4 := hideP hK4
  clear hK4
  have h14 : Bl W w4 := ((h1.trans h2).trans h3).trans h4
  obtain ⟨w5, hw5⟩ : ∃ w5, w5 = w4.alloc (.cells #[.func (.func 153) #[] #[.pointer (some ⟨B1, 0, none⟩)]] 142) := ⟨_, rfl⟩
  have b45 : Bl w4 w5 := by rw [hw5]; exact (Bl.refl _).alloc _
  have hs5 : w5.heap.size = w4.heap.size + 1 := by rw [hw5]; simp
  have BC5 : Boxed w5 w4.heap.size 142 (.func (.func 153) #[] #[.pointer (some ⟨B1, 0, none⟩)]) := by rw [hw5]; exact Boxed.new w4 _ _
  have mx5 := mx0.later (h14.trans b45)
  have my5 := my0.later (h14.trans b45)
  have mz5 := mz0.later (h14.trans b45)
  have bw5 : Bl w w5 := (b0.trans h14).trans b45
  have HW5 := hideP hw5
  clear hw5
  obtain ⟨c0, c1, c2, f0, f1, f2, lt⟩ := mx0.later h14
  obtain ⟨d0, d1, d2, u0, u1, u2, ltm⟩ := my0.later h14
  gi_wp2_with (gi_at_make; refine wpListIn_make_own _ rfl _ _ 60 rfl (w4.heap.size + 1) 66 i0 (.agg #[.int .i64 0, .int .i64 0, .bool false]) 3 Tryz.underlying60 hi hz0 hz1 .i64 .i64 _ N rfl rfl (by simp) (by rw [hz2]; omega) (by unfold maxLen; omega) (by simp) ?_; intro w6 hown0 hgrow0; rw [← HW5.out] at hown0 hgrow0; have mx6 := mbox_block mx5 (hgrow0.block _ mx5.lt nofun) hgrow0.size; clear c0 c1 c2 f0 f1 f2 d0 d1 d2 u0 u1 u2 lt ltm; obtain ⟨c0, c1, c2, f0, f1, f2, lt⟩ := mx6)
  have h56 : Bl w5 w6 := ⟨hgrow0.os, hgrow0.tape, hgrow0.output, hgrow0.size, fun k hk => hgrow0.block k hk nofun⟩
  have hs6 : w5.heap.size ≤ w6.heap.size := hgrow0.size
  obtain ⟨w6b, hw6b⟩ : ∃ w6b, w6b = w6.alloc (.cells #[.slice (some ⟨w4.heap.size + 1, 0, none⟩) 0 N] 60) := ⟨_, rfl⟩
  have h6b : Bl w6 w6b := by rw [hw6b]; exact (Bl.refl _).alloc _
  have hs6b : w6b.heap.size = w6.heap.size + 1 := by rw [hw6b]; simp
  have bl6 : Boxed w6b w6.heap.size 60 (.slice (some ⟨w4.heap.size + 1, 0, none⟩) 0 N) := by rw [hw6b]; exact Boxed.new w6 _ _
  have hown6 : w6b.ownsRow (w4.heap.size + 1) 66 3 (.slice (some ⟨w4.heap.size + 1, 0, none⟩) 0 N) 0 [] := by
    rw [hs5] at hown0
    exact own_blF hown0 h6b
  have HW6 := hideP hw6b
  clear hw6b hown0 hgrow0 c0 c1 c2 f0 f1 f2 lt
  rw [← HW6.out]
  refine ⟨trivial, ?_⟩
  refine (callsIn_wide.2 (mAllF _ _ _ _ _ f _ (HXm.out.later ((bw5.trans h56).trans h6b)))).mono ?_
  rintro e w7 ⟨B2, p2, cap5, rfl, hK7, h7⟩
  have HK7 := hideP hK7
  clear hK7
  have hs7 : w6.heap.size + 1 ≤ w7.heap.size := by have := h7.size; omega
  have b57 : Below w5.heap.size w5 w7 := (h56.trans h6b).trans h7
  have bl7 := boxed_bl bl6 h7
  have own7 := own_blF hown6 h7
  clear bl6 hown6
  have K4at : ∀ u, Below w5.heap.size w5 u → KeptIn 3 cellsF u w3.heap.size w4.heap.size B1 D M q2 n2 cap4 (fun i k => g k i) := fun u hu =>
    (HK4.out.later (Bl.span b45 (Nat.le_refl _))).later (Bl.span (show Bl w5 u from hu) (by omega))
  have HKA := hideP K4at
  clear K4at
  gi_wp2_with fail
  refine rangeV rfl (by omega) (gf := 153) (lb := #[.pointer (some ⟨B2, 0, none⟩)]) rfl trivial (enters_of Tryz.func153 (by kernel_rfl) rfl)
    (seqMF 7 B2 _ w7.heap.size R M p2 n cap5 f w7 (Nat.le_refl _) HK7.out) (fun x A B h => h.1) (fun h k => h.trans k) (span_b (Nat.le_refl _)) (fun _ => rfl)
    (fun pre U => (∃ v, Boxed U w6.heap.size 60 v ∧ U.ownsRow (w4.heap.size + 1) 66 3 v (rowsL D (mulMF M f g) pre).length ((rowsL D (mulMF M f g) pre).flatMap cellsF) ∧ (∀ b, v.ownBlock = some b → b < w6b.heap.size ∨ w7.heap.size ≤ b)) ∧ (Below w5.heap.size w5 U ∧ w7.heap.size ≤ U.heap.size))
    (fun _ _ _ => False)
    (OwnFrom.and (Own.from (holdsRow_own (w4.heap.size + 1) w6.heap.size 60 66 3 (fun pre => (rowsL D (mulMF M f g) pre).length) (fun pre => (rowsL D (mulMF M f g) pre).flatMap cellsF) (fun _ v => ∀ b, v.ownBlock = some b → b < w6b.heap.size ∨ w7.heap.size ≤ b)) _) (OwnFrom.and (ownFrom_below (Nat.le_refl _) b57.size) (own_size _ _)))
    (fun _ _ _ _ _ hs _ _ => hs)
    ⟨⟨_, bl7, own7, fun b hb => by cases hb; exact .inl (by show w4.heap.size + 1 < _; omega)⟩, b57, Nat.le_refl _⟩
    (fun a x a' U => ∃ Bx v, w7.heap.size ≤ Bx ∧ Boxed U Bx 60 (rowV M x) ∧ Rw 3 cellsF U (rowV M x) (rowM M f x.1) ∧ Boxed U w6.heap.size 60 v ∧ (∀ b, (rowV M x).ownBlock = some b → w7.heap.size ≤ b ∧ v.ownBlock ≠ some b)
      ∧ a' = { tmps := (((a.tmps.setIfInBounds 39 (.int .i64 x.1)).setIfInBounds 40 (rowV M x)).setIfInBounds 9 (.pointer (some ⟨Bx, 0, none⟩))), defers := [] })
    (fun x a' _ X Y row hs hg hr => by obtain ⟨Bx, v, h0, h1, h2, h3, h4, h5⟩ := hs; exact ⟨Bx, v, h0, (Own.from (boxed_own (β := Unit) _ _ (fun _ => _)) _) () _ _ _ h1 hg hr, rw_own h2 hg (fun r e => (hr r e).2), (Own.from (boxed_own (β := Unit) _ _ (fun _ => _)) _) () _ _ _ h3 hg hr, h4, h5⟩)
    ?assign ?body ?done ?stop
  case assign =>
    rintro l pre x W0 U K' ⟨⟨v0, hv0, hr0, _⟩, _, hs0'⟩ ⟨hbU, hxR, hrow, hfr, hcc⟩ ⟨⟨v, hv, hr, hg⟩, hbU5, hsU⟩ hK'
    have HK2 := hideP hK'
    clear hK'
    have hvv : v0 = v := by
      have e1 := (boxed_bl hv0 hbU).cell
      rw [hv.cell] at e1
      exact (Option.some.inj e1).symm
    subst hvv
    have hfw : ∀ b, (rowV M x).ownBlock = some b → w7.heap.size ≤ b ∧ v0.ownBlock ≠ some b := fun b hb => ⟨by have := hfr b hb; omega, fun e => by have := (hr0.lt b e).2; have := hfr b hb; omega⟩
    gi_wp2
    have hb2 : Bl U (U.alloc (.cells #[.slice x.2.1 M x.2.2] 60)) := (Bl.refl U).alloc _
    refine HK2.out _ _ (hb2.keeps _) (hb2.span hsU) ⟨⟨v0, hv.alloc _, hr.alloc _, hg⟩, hbU5.trans (hb2.mono hbU5.size), by have := hb2.size; omega⟩ ⟨U.heap.size, v0, hsU, Boxed.new U _ _, hrow.later hb2, hv.alloc _, hfw, ?_⟩
    rfl
  case body =>
    rintro l pre x a' U hl' ⟨r, hr'⟩ ⟨⟨v1, hv1, hrow1, hg1⟩, hbU, hsU⟩ ⟨Bx, v2, hBx, hbx, hrx, hv2, hne, rfl⟩ hlt
    have hvv : v1 = v2 := by
      have e1 := hv1.cell
      rw [hv2.cell] at e1
      exact (Option.some.inj e1).symm
    subst hvv
    have fm : Tryz.prog.follows .mixedOrders = true := by kernel_rfl
    simp only [List.setIfInBounds_toArray, List.set_cons_zero, List.set_cons_succ]
    have hcl := (boxed_bl (show Boxed w5 _ _ _ from BC5) hbU).cell
    have hKU := HKA.out U hbU
    have HR1 := hideP hrow1
    have HV1 := hideP hv1
    have HBX := hideP hbx
    have HRX := hideP hrx
    have HNE := hideP hne
    have HG1 := hideP hg1
    have hlx : pre.length * D + D ≤ 256 := by
      have h1 : (pre.length + 1) * D ≤ R * D := Nat.mul_le_mul_right _ hlt
      have := HN.out
      rw [Nat.succ_mul] at h1
      omega
    clear hrow1 hv1 hbx hrx hne hg1 hv2
    gi_wp2_with fail
    clear hcl
    refine rangeVin (l₀ := l) (r₀ := r) rfl hr' (by omega) (gf := 153) (lb := #[.pointer (some ⟨B1, 0, none⟩)]) rfl trivial (enters_of Tryz.func153 (by kernel_rfl) rfl)
      ((seqMF 5 B1 w3.heap.size w4.heap.size D M q2 n2 cap4 (fun i k => g k i) U (by omega) hKU).inRound l) (fun x A B h => h.1) (fun h k => h.trans k) (span_b (by omega)) (fun _ => rfl)
      (fun pre2 U2 => (∃ v, Boxed U2 w6.heap.size 60 v ∧ U2.ownsRow (w4.heap.size + 1) 66 3 v (partL D (mulMF M f g) pre x.1 pre2).length ((partL D (mulMF M f g) pre x.1 pre2).flatMap cellsF) ∧ (∀ b, v.ownBlock = some b → (b < w6b.heap.size ∨ w7.heap.size ≤ b) ∧ (rowV M x).ownBlock ≠ some b))
        ∧ (Boxed U2 Bx 60 (rowV M x) ∧ (Rw 3 cellsF U2 (rowV M x) (rowM M f x.1) ∧ (Below w5.heap.size w5 U2 ∧ (w7.heap.size ≤ U2.heap.size ∧ (Span w6b.heap.size w7.heap.size U U2 ∧ (KeepsFrom w7.heap.size U U2 ∧ U.heap.size ≤ U2.heap.size)))))))
      (fun _ _ _ => False)
      (OwnFrom.and (Own.from (holdsRow_own (w4.heap.size + 1) w6.heap.size 60 66 3 (fun pre2 => (partL D (mulMF M f g) pre x.1 pre2).length) (fun pre2 => (partL D (mulMF M f g) pre x.1 pre2).flatMap cellsF) (fun _ v => ∀ b, v.ownBlock = some b → (b < w6b.heap.size ∨ w7.heap.size ≤ b) ∧ (rowV M x).ownBlock ≠ some b)) _)
        (OwnFrom.and (Own.from (boxed_own _ _ (fun _ => _)) _) (OwnFrom.and (own_rw _ _ _ _ _) (OwnFrom.and (ownFrom_below (Nat.le_refl _) (by have := b57.size; omega)) (OwnFrom.and (own_size _ _) (OwnFrom.and (own_span hsU (Nat.le_refl _)) (OwnFrom.and (ownFrom_keepsFrom (Nat.le_refl _)) (own_size _ _))))))))
      (fun _ _ _ _ _ hs _ _ => hs)
      ⟨⟨v1, HV1.out, by rw [partL_nil]; exact HR1.out, fun b hb => ⟨HG1.out b hb, fun e => (HNE.out b e).2 hb⟩⟩, HBX.out, HRX.out, hbU, hsU, Span.refl _ _ _, KeepsFrom.refl _ _, Nat.le_refl _⟩
      (fun a y a' U2 => y.1 < D ∧ Rw 3 cellsF U2 (rowV M y) (colM M g y.1) ∧ a' = { tmps := (((a.tmps.setIfInBounds 42 (.int .i64 y.1)).setIfInBounds 43 (rowV M y)).setIfInBounds 11 (rowV M y)), defers := [] })
      (fun y a' _ X Y row hs hg hr => ⟨hs.1, rw_own hs.2.1 hg (fun r e => (hr r e).2), hs.2.2⟩)
      ?assign2 ?body2 ?done2 ?stop2
    case assign2 =>
      rintro l2 pre2 y W0 U2 K' _ ⟨hbU2, hyD, hrow, _, _⟩ hI2 hK'
      have HK2 := hideP hK'
      have HI2 := hideP hI2
      clear hK' hI2
      gi_wp2
      exact HK2.out _ _ (KeepsFrom.refl _ _) (Span.refl _ _ _) HI2.out ⟨hyD, hrow, rfl⟩
    case body2 =>
      rintro l2 pre2 y a' U2 hl2 ⟨r2, hr2⟩ ⟨⟨v, hv, hrow, hgv⟩, hbx2, hrx2, hb5, hs7', hsp, hkf, hsU2⟩ ⟨hyD, hry, rfl⟩ hlt2
      simp only [List.setIfInBounds_toArray, List.set_cons_zero, List.set_cons_succ]
      gi_wp2_with fail
      have hC := fun u (hu : Bl U2 u) => vDotF (rowV M x) (rowV M y) (rowM M f x.1) (colM M g y.1) u (hrx2.later hu).q (hry.later hu).q (by rw [rowM_len]; omega) (by rw [colM_len]; omega)
      have hlen2 : (partL D (mulMF M f g) pre x.1 pre2).length ≤ 100000 := by rw [partL_len]; omega
      refine dotAppendF (ops := _) rfl (by kernel_rfl) 44 7 76 (by simp) (by omega) ⟨rfl, rfl, rfl⟩ ⟨rfl, rfl⟩ ⟨rfl, rfl⟩ ⟨rfl, rfl, rfl⟩ ⟨rfl, rfl, rfl⟩ ⟨rfl, rfl, rfl⟩ ⟨rfl, rfl, rfl⟩ ⟨by simp, by simp⟩ (by simp) ⟨by simp, by simp⟩ (by simp)
        (rowV M x) (rowV M y) (fun act u K' hfr hu hk => load_wp 60 (.tmp 9) rfl (by rw [hfr 9 (by omega)]; exact Tryz.load1F Bx _ u (boxed_bl hbx2 hu).cell) hk)
        (fun act u K' hfr hu hk => move_wp (.tmp 11) rfl (by rw [hfr 11 (by omega)]; exact hk))
        trivial (fun _ => by omega) (enters_of Tryz.func76 (by kernel_rfl) rfl) (mulMF M f g x.1 y.1)
        (fun u hu => CallsIn.inRound l2 (CallsIn.inRound l (callsIn_wide.2 (hC u hu))))
        w6.heap.size rfl v hv (w4.heap.size + 1) (partL D (mulMF M f g) pre x.1 pre2) hrow hlen2 (by omega) ?_
      intro act u0 w8 g' cap' k1 k2 k3 k4
      have hvu := boxed_bl hv k1
      have hru := own_blF hrow k1
      have hsu := k1.size
      have hu5 : w4.heap.size + 1 ≤ u0.heap.size := by omega
      obtain ⟨hv5, hv6, hr6, hk6, hb6⟩ := boxed_appended hvu (by decide) hru hu5 (by omega) k3 k2
      have hg8 := k2.size
      have hbb : ∀ b, (rowV M x).ownBlock = some b → b < U2.heap.size := hrx2.lt
      have hsB : Below w5.heap.size U2 (w8.setCell ⟨w6.heap.size, 0, none⟩ (.slice (some ⟨g', 0, none⟩) ((partL D (mulMF M f g) pre x.1 pre2).length + 1) cap')) := (k1.mono (by omega)).trans (by rw [hs5]; exact hb6)
      refine ⟨(k1.keeps _).trans (hk6.from _), ⟨by have := hsB.size; omega, fun k _ h2 => hsB.block k (by omega)⟩, ⟨_, hv6, ?_, ?_⟩, ?_, ?_, ?_, ?_, ?_, ?_, ?_⟩
      · rw [partL_snoc]
        simpa [List.flatMap_append] using hr6
      · intro b hb
        have hb' : g' = b := by cases hb; rfl
        subst hb'
        rcases k4 with h | h
        · exact hgv _ h.symm
        · exact ⟨.inr (by omega), fun e => by have := hbb _ e; omega⟩
      · exact ((boxed_bl hbx2 k1).kept k2 ((boxed_bl hbx2 k1).not_row (by decide) hru)).other (by omega) _
      · exact (hrx2.later k1).beside k2 (fun b hb => ⟨fun e => (hgv b e).2 hb, by have := (HNE.out b hb).1; omega⟩)
      · exact hb5.trans hsB
      · simp; omega
      · exact hsp.trans (span_appended k1 (by omega) (fun b hb => (hgv b hb).1) k2 (by omega))
      · exact hkf.trans ((k1.keeps _).trans (hk6.from _))
      · simp; omega
    case done2 =>
      rintro zs U2 hS ⟨⟨v, hv, hrow, hgv⟩, _, _, hb5, hs7', hsp, hkf, _⟩
      gi_wp2
      refine ⟨hkf, hsp, ⟨⟨v, hv, ?_, fun b hb => (hgv b hb).1⟩, hb5, hs7'⟩⟩
      rw [← partL_all D (mulMF M f g) pre x zs hS]
      exact hrow
    case stop2 =>
      rintro c pre2 U2 _ h
      exact h.elim
  case done =>
    rintro Dm zs U hD hS ⟨⟨v, hv, hrow, _⟩, hb5, hs7'⟩ hKD
    have e := rowsL_all D (mulMF M f g) zs hS
    rw [e] at hrow
    have RW := Rw.of_own cellsF_len hrow
    have FR : Fresh (w4.heap.size + 1) v := fun b hb => (hrow.lt b hb).1
    obtain ⟨p', cap', hv', _, _⟩ := RW.cut
    rw [mk_len, ← HN.out] at hv'
    subst hv'
    have hcl := hv.cell
    have HRW := hideP RW
    have HFR := hideP FR
    have HKD := hideP hKD
    obtain ⟨c0, c1, c2, f0, f1, f2, lt⟩ := mx5.later (show Bl w5 U from hb5)
    obtain ⟨d0, d1, d2, u0, u1, u2, ltm⟩ := my5.later (show Bl w5 U from hb5)
    obtain ⟨x0, x1, x2, y0, y1, y2, ltz⟩ := mz5.later (show Bl w5 U from hb5)
    have hbw : Bl w U := bw5.trans hb5
    clear hrow RW FR hKD hv
    gi_wp2
    have hs4 := h14.size
    have hdm : Dm ≠ w.heap.size + 1 + 1 := by omega
    have hKD2 : ((((U.setCell ⟨w.heap.size + 1 + 1, 0, none⟩ (.int .i64 R)).setCell ⟨w.heap.size + 1 + 1, 1, none⟩ (.int .i64 D)).setCell ⟨w.heap.size + 1 + 1, 2, none⟩ (.slice p' N cap'))).heap[Dm]? = some (.deferred (some [])) :=
      (((KeepsOthers.setCell _ _ _).trans (KeepsOthers.setCell _ _ _)).trans (KeepsOthers.setCell _ _ _)).same Dm _ HKD.out rfl
    refine ⟨by simp, .inl ⟨_, _, rfl, run_takeDeferred hKD2, ?_⟩⟩
    have mzf := MBox.fill (⟨x0, x1, x2, y0, y1, y2, ltz⟩ : MBox U (w.heap.size + 1 + 1) 0 0 none 0 0) R D p' N cap'
    have mzg := mbox_block (w' := World.putObj _ Dm (.deferred none)) mzf (World.putObj_heap_other (by omega)) (by simp [World.putObj])
    have blf := Bl.put3 hbw (n := w.heap.size + 1 + 1) (by omega) (.int .i64 R) (.int .i64 D) (.slice p' N cap')
    have rwf := ((HRW.out.set (p := ⟨w.heap.size + 1 + 1, 0, none⟩) (.int .i64 R) (fun b hb => by have := HFR.out b hb; show w.heap.size + 1 + 1 + 1 ≤ b; omega)).set (p := ⟨w.heap.size + 1 + 1, 1, none⟩) (.int .i64 D) (fun b hb => by have := HFR.out b hb; show w.heap.size + 1 + 1 + 1 ≤ b; omega)).set (p := ⟨w.heap.size + 1 + 1, 2, none⟩) (.slice p' N cap') (fun b hb => by have := HFR.out b hb; show w.heap.size + 1 + 1 + 1 ≤ b; omega)
    generalize ((U.setCell ⟨w.heap.size + 1 + 1, 0, none⟩ (.int .i64 R)).setCell ⟨w.heap.size + 1 + 1, 1, none⟩ (.int .i64 D)).setCell ⟨w.heap.size + 1 + 1, 2, none⟩ (.slice p' N cap') = Z at *
    have rwg : Rw 3 cellsF (Z.putObj Dm (.deferred none)) (.slice p' N cap') (mk R D (mulMF M f g)) := rw_own rwf (grownBy_putObj' _ Dm (.deferred none)) (fun r e => by cases e; exact ⟨_, hKD2, rfl⟩)
    have blg : Bl w (Z.putObj Dm (.deferred none)) := Below.trans blf (belowK_b (w := w) (Nat.le_refl _) Z Dm _ _ (by have := hbw.size; have := b57.size; omega) hKD2 rfl rfl)
    generalize Z.putObj Dm (.deferred none) = Y at *
    obtain ⟨a0, a1, a2, _, _, _, _⟩ := mzg
    refine ⟨.tuple #[mV R D p' N cap', .bool true], ?_, p', cap', rfl, ⟨⟨⟨hdR.r1, hdR.r2, hdD.c1, hdD.c2⟩, HN.out, rwg.q⟩, rwg, fun b hb => by have := HFR.out b hb; omega⟩, blg⟩
    simp [results, Tryz.results113, go_sem, a0, a1, a2]
  case stop =>
    rintro D' c pre U _ _ h _
    exact h.elim
end Go.Proofs.YtlbmkjicbkfmjaaGreat

/- mat's Mul of what does not go together, of fractions (layer 6). Written by genMa.py. -/
namespace Go.Proofs.YtlbmkjicbkfmjaaGreat
open Go.RowKit
set_option linter.unusedSimpArgs false
set_option linter.unusedVariables false

theorem mMulF_no (r c r2 c2 : Int) (p : Option Addr) (n cap : Nat) (q : Option Addr) (n2 cap2 : Nat) (w : World) (h : fitB r c n = false ∨ fitB r2 c2 n2 = false ∨ c ≠ r2) :
    Calls Tryz.prog 113 #[mV r c p n cap, mV r2 c2 q n2 cap2] w fun e w' => e = .returned (.tuple #[mV 0 0 none 0 0, .bool false]) ∧ Bl w w' := by
  obtain ⟨W, hW⟩ : ∃ W, W = ((w.alloc (.cells #[.int .i64 r, .int .i64 c, .slice p n cap] 62)).alloc (.cells #[.int .i64 r2, .int .i64 c2, .slice q n2 cap2] 62)).alloc (.cells #[.int .i64 0, .int .i64 0, .slice none 0 0] 62) := ⟨_, rfl⟩
  have b0 : Bl w W := by rw [hW]; exact (((Bl.refl _).alloc _).alloc _).alloc _
  have mx0 : MBox W w.heap.size r c p n cap := by rw [hW]; exact (MBox.new w _ _ _ _ _ _).later (((Bl.refl _).alloc _).alloc _)
  have my0 : MBox W (w.heap.size + 1) r2 c2 q n2 cap2 := by rw [hW]; have := (MBox.new (w.alloc (.cells #[.int .i64 r, .int .i64 c, .slice p n cap] 62)) r2 c2 q n2 cap2 62); rw [World.size_alloc] at this; exact this.later ((Bl.refl _).alloc _)
  have mz0 : MBox W (w.heap.size + 1 + 1) 0 0 none 0 0 := by rw [hW]; have := MBox.new ((w.alloc (.cells #[.int .i64 r, .int .i64 c, .slice p n cap] 62)).alloc (.cells #[.int .i64 r2, .int .i64 c2, .slice q n2 cap2] 62)) 0 0 none 0 0 62; rw [World.size_alloc, World.size_alloc] at this; exact this
  have HW := hideP hW
  clear hW
  cases hfx : fitB r c n with
  | false =>
    clear h
    go_enter Tryz.func113, Tryz.ntmps113
    go_wp2_with fail
    rw [← HW.out]
    refine (mRightF _ _ _ _ _ _).mono ?_
    rintro e w1 ⟨rfl, h1⟩
    rw [hfx]
    obtain ⟨c0, c1, c2, f0, f1, f2, lt⟩ := mz0.later h1
    go_wp2
    simp [bodyPost, results, Tryz.results113, go_sem, c0, c1, c2]
    exact Bl.put3 (b0.trans h1) (by omega) _ _ _
  | true =>
    cases hfy : fitB r2 c2 n2 with
    | false =>
      clear h
      go_enter Tryz.func113, Tryz.ntmps113
      go_wp2_with fail
      rw [← HW.out]
      refine (mRightF _ _ _ _ _ _).mono ?_
      rintro e w1 ⟨rfl, h1⟩
      rw [hfx]
      obtain ⟨d0, d1, d2, u0, u1, u2, ltm⟩ := my0.later h1
      go_wp2_with fail
      refine (mRightF _ _ _ _ _ _).mono ?_
      rintro e w2 ⟨rfl, h2⟩
      rw [hfy]
      clear d0 d1 d2 u0 u1 u2 ltm
      obtain ⟨c0, c1, c2, f0, f1, f2, lt⟩ := mz0.later (h1.trans h2)
      go_wp2
      simp [bodyPost, results, Tryz.results113, go_sem, c0, c1, c2]
      exact Bl.put3 (b0.trans (h1.trans h2)) (by omega) _ _ _
    | true =>
      have hne : c ≠ r2 := by rcases h with h | h | h; · rw [hfx] at h; cases h
                              · rw [hfy] at h; cases h
                              · exact h
      have hne' : (c == r2) = false := by simpa using hne
      clear h
      go_enter Tryz.func113, Tryz.ntmps113
      go_wp2_with fail
      rw [← HW.out]
      refine (mRightF _ _ _ _ _ _).mono ?_
      rintro e w1 ⟨rfl, h1⟩
      rw [hfx]
      obtain ⟨d0, d1, d2, u0, u1, u2, ltm⟩ := my0.later h1
      go_wp2_with fail
      refine (mRightF _ _ _ _ _ _).mono ?_
      rintro e w2 ⟨rfl, h2⟩
      rw [hfy]
      clear d0 d1 d2 u0 u1 u2 ltm
      obtain ⟨d0, d1, d2, u0, u1, u2, ltm⟩ := my0.later (h1.trans h2)
      obtain ⟨a0, a1, a2, v0, v1, v2, lta⟩ := mx0.later (h1.trans h2)
      obtain ⟨c0, c1, c2, f0, f1, f2, lt⟩ := mz0.later (h1.trans h2)
      go_wp2
      simp [bodyPost, results, Tryz.results113, go_sem, c0, c1, c2]
      exact Bl.put3 (b0.trans (h1.trans h2)) (by omega) _ _ _
end Go.Proofs.YtlbmkjicbkfmjaaGreat

/- What layer 5's laws ask with: Few, the document's Dot, awake. -/
namespace Go.Proofs.YtlbmkjicbkfmjaaGreat
open Go.RowKit
set_option linter.unusedSimpArgs false
set_option linter.unusedVariables false

/-- A whole number's cells. -/
abbrev cI : Int → List Value := fun n => [.int .i64 n]
theorem cellI {w wr : World} {b o : Nat} {ns : List Int} (HX : ∀ j x, ns[j]? = some x → ∀ k u, (cI x)[k]? = some u → w.cell? ⟨b, o + j * 1 + k, none⟩ = some u) {k : Nat} {x : Int} (hx : ns[k]? = some x) : w.cell? ⟨b, o + k, none⟩ = some (.int .i64 x) := by
  have := HX k x hx 0 _ rfl
  simpa using this
/-- What Few tells. -/
def FewP (ns : List Int) (w : World) (e : Ending) (w' : World) : Prop := ∃ b, e = .returned (.bool b) ∧ (b = true → ns.length ≤ 20 ∧ Sml 1000 ns) ∧ w' = w
theorem fewP {ns : List Int} {w : World} (b : Bool) (h : b = true → ns.length ≤ 20 ∧ Sml 1000 ns) : FewP ns w (.returned (.bool b)) w := ⟨b, rfl, h, rfl⟩
/-- The world behind awake's two rows of whole numbers. -/
theorem rq_new2 (w : World) (x y : Int) (t : TypeId) : Rq 1 cI (w.alloc (.cells #[.int .i64 x, .int .i64 y] t)) (.slice (some ⟨w.heap.size, 0, none⟩) 2 2) [x, y] := by
  refine .inr ⟨w.heap.size, 0, 2, rfl, Nat.le_refl _, by simp, fun j z hj k u hu => ?_⟩
  rcases k with _ | k
  · simp at hu
    subst hu
    rcases j with _ | _ | j
    · simp at hj; subst hj; simp [go_sem]
    · simp at hj; subst hj; simp [go_sem]
    · simp at hj
  · simp at hu
theorem dotI_snoc (xs ys : List Int) (k : Nat) (x y : Int) (hx : xs[k]? = some x) (hy : ys[k]? = some y) : dotI (xs.take (k + 1)) (ys.take (k + 1)) = dotI (xs.take k) (ys.take k) + x * y := by
  have h1 := (List.getElem?_eq_some_iff.1 hx).1
  have h2 := (List.getElem?_eq_some_iff.1 hy).1
  unfold dotI
  rw [List.take_add_one, List.take_add_one, hx, hy, List.zipWith_append (by simp; omega)]
  simp
theorem dotI_take (xs ys : List Int) (k : Nat) (h : k = min xs.length ys.length) : dotI (xs.take k) (ys.take k) = dotI xs ys := by
  unfold dotI
  congr 1
  subst h
  rw [List.zipWith_eq_zipWith_take_min (l₁ := xs)]
theorem sum_few {ns : List Int} (h : Sml 1000 ns) (hl : ns.length ≤ 20) : sumF (ns.map wholeF) = itF ns.sum := by
  rw [wholes_it ns h (by omega)]
  exact sum_it ns h (by omega) (by omega)
end Go.Proofs.YtlbmkjicbkfmjaaGreat

/- Contracts in the words of layer 5's laws: few whole numbers, as fractions; awake. -/
namespace Go.Proofs.YtlbmkjicbkfmjaaGreat
open Go.RowKit
set_option linter.unusedSimpArgs false
set_option linter.unusedVariables false

theorem eqR_self (r : Fr) : eqR r r = true := eqR_iff.2 rfl
theorem eql_selfV (r : Fr) (w : World) : (binOp .eql 66 (frV r) (frV r)).run Tryz.prog w = .ok (.bool true) w := by rw [eql_fr, eqR_self]
theorem new_few {n : Int} (h : Wh n) (w : World) : Calls Tryz.prog 32 #[.int .i64 n, .int .i64 1] w fun e w' => e = .returned (frV (itF n)) ∧ Bl w w' := by
  rw [← new_it h]
  exact new_any n 1 w
/-- A row of whole numbers. -/
abbrev RwI (w : World) (v : Value) (ns : List Int) : Prop := Rw 3 cellsF w v (ns.map itF)
theorem rw_slice {w : World} {v : Value} {ns : List Int} (h : RwI w v ns) : ∃ p c, v = .slice p ns.length c ∧ ns.length ≤ c := by
  obtain ⟨p, c, e, h1, _⟩ := h.cut
  rw [List.length_map] at e h1
  exact ⟨p, c, e, h1⟩
theorem whole_few (v : Value) (ns : List Int) (w : World) (h : Rq 1 cI w v ns) (hs : Sml 1000 ns) (hl : ns.length ≤ 20) :
    Calls Tryz.prog 31 #[v] w fun e w' => ∃ p c, e = .returned (.slice p ns.length c) ∧ (RwI w' (.slice p ns.length c) ns ∧ ns.length ≤ c) ∧ Bl w w' := by
  refine (vWholeF v ns w h (by omega)).mono ?_
  rintro e w' ⟨u, rfl, hr, hb⟩
  rw [wholes_it ns hs (by omega)] at hr
  obtain ⟨p, c, rfl, hc⟩ := rw_slice hr
  exact ⟨p, c, rfl, ⟨hr, hc⟩, hb⟩
theorem add_few (va vb : Value) (xs ys : List Int) (w : World) (ha : RwI w va xs) (hb : RwI w vb ys) (hx : Sml 1000 xs) (hy : Sml 1000 ys) (hl : xs.length ≤ 20) (hm : ys.length ≤ 20) :
    Calls Tryz.prog 78 #[va, vb] w fun e w' => ∃ p c, e = .returned (.slice p (min xs.length ys.length) c) ∧ (RwI w' (.slice p (min xs.length ys.length) c) (List.zipWith (· + ·) xs ys) ∧ min xs.length ys.length ≤ c) ∧ Bl w w' := by
  refine (vAddF va vb _ _ w ha.q hb.q (by simp; omega) (by simp; omega)).mono ?_
  rintro e w' ⟨u, rfl, hr, hb⟩
  rw [adds_it (A := 1000) (B := 1000) (by omega) (by omega) (by omega) xs ys hx hy] at hr
  obtain ⟨p, c, rfl, hc⟩ := rw_slice hr
  rw [List.length_zipWith] at hr hc ⊢
  exact ⟨p, c, rfl, ⟨hr, hc⟩, hb⟩
theorem sub_few (va vb : Value) (xs ys : List Int) (w : World) (ha : RwI w va xs) (hb : RwI w vb ys) (hx : Sml 1000 xs) (hy : Sml 1000 ys) (hl : xs.length ≤ 20) (hm : ys.length ≤ 20) :
    Calls Tryz.prog 160 #[va, vb] w fun e w' => ∃ p c, e = .returned (.slice p (min xs.length ys.length) c) ∧ (RwI w' (.slice p (min xs.length ys.length) c) (List.zipWith (· - ·) xs ys) ∧ min xs.length ys.length ≤ c) ∧ Bl w w' := by
  refine (vSubF va vb _ _ w ha.q hb.q (by simp; omega) (by simp; omega)).mono ?_
  rintro e w' ⟨u, rfl, hr, hb⟩
  rw [subs_it (A := 1000) (B := 1000) (by omega) (by omega) (by omega) xs ys hx hy] at hr
  obtain ⟨p, c, rfl, hc⟩ := rw_slice hr
  rw [List.length_zipWith] at hr hc ⊢
  exact ⟨p, c, rfl, ⟨hr, hc⟩, hb⟩
theorem scale_few (v : Value) (xs : List Int) (b : Int) (w : World) (h : RwI w v xs) (hx : Sml 1000 xs) (hb : -1000 ≤ b ∧ b ≤ 1000) (hl : xs.length ≤ 20) :
    Calls Tryz.prog 79 #[v, frV (itF b)] w fun e w' => ∃ p c, e = .returned (.slice p xs.length c) ∧ (RwI w' (.slice p xs.length c) (xs.map (· * b)) ∧ xs.length ≤ c) ∧ Bl w w' := by
  refine (vScaleF v _ (itF b) w h (by simp; omega)).mono ?_
  rintro e w' ⟨u, rfl, hr, hbl⟩
  rw [scale_it (A := 1000) (B := 1000) (by omega) (by omega) (by omega) hb xs hx] at hr
  obtain ⟨p, c, rfl, hc⟩ := rw_slice hr
  rw [List.length_map] at hr hc ⊢
  exact ⟨p, c, rfl, ⟨hr, hc⟩, hbl⟩
theorem dot_few {A B : Int} (va vb : Value) (xs ys : List Int) (w : World) (ha : RwI w va xs) (hb : RwI w vb ys) (hx : Sml A xs) (hy : Sml B ys) (hA : 0 ≤ A ∧ A ≤ 100000) (hB : 0 ≤ B ∧ B ≤ 2000) (hAB : A * B ≤ 53687091) (hl : xs.length ≤ 20) (hm : ys.length ≤ 20) :
    Calls Tryz.prog 76 #[va, vb] w fun e w' => e = .returned (frV (itF (dotI xs ys))) ∧ Bl w w' := by
  rw [← dot_it hx hy hA hB hl hAB]
  exact vDotF va vb _ _ w ha.q hb.q (by simp; omega) (by simp; omega)
theorem sum_few' (v : Value) (xs : List Int) (w : World) (h : RwI w v xs) (hx : Sml 1000 xs) (hl : xs.length ≤ 20) :
    Calls Tryz.prog 118 #[v] w fun e w' => e = .returned (frV (itF xs.sum)) ∧ Bl w w' := by
  rw [← sum_it (B := 1000) xs hx (by omega) (by omega)]
  exact vsumF v _ w h.q (by simp; omega)
theorem sml12 : Sml 1000 [1, 2] := by intro x hx; simp at hx; omega
theorem sml34 : Sml 1000 [3, 4] := by intro x hx; simp at hx; omega
end Go.Proofs.YtlbmkjicbkfmjaaGreat

/- What layer 6's laws ask with: Few, the document's Right and Mul. -/
namespace Go.Proofs.YtlbmkjicbkfmjaaGreat
open Go.RowKit
set_option linter.unusedSimpArgs false
set_option linter.unusedVariables false

/-- What Few tells. -/
def FewQ (ns : List Int) (w : World) (e : Ending) (w' : World) : Prop := ∃ b, e = .returned (.bool b) ∧ (b = true → ns.length ≤ 256 ∧ Sml 100 ns) ∧ w' = w
theorem fewQ {ns : List Int} {w : World} (b : Bool) (h : b = true → ns.length ≤ 256 ∧ Sml 100 ns) : FewQ ns w (.returned (.bool b)) w := ⟨b, rfl, h, rfl⟩
/-- A product's number, of whole numbers. -/
def mulI (M : Nat) (a b : Nat → Nat → Int) (i k : Nat) : Int := dotI (rowM M a i) (colM M b k)
theorem mulI_succ (M : Nat) (a b : Nat → Nat → Int) (i k : Nat) : mulI (M + 1) a b i k = mulI M a b i k + a i M * b M k := by
  unfold mulI dotI
  rw [rowM_succ, colM_succ, List.zipWith_append (by rw [rowM_len, colM_len])]
  simp
theorem mulI_zero (a b : Nat → Nat → Int) (i k : Nat) : mulI 0 a b i k = 0 := rfl
theorem mulI_bound {A B : Int} {R M D : Nat} {a b : Nat → Nat → Int} (hA : 0 ≤ A) (hB : 0 ≤ B) (ha : ∀ i k, i < R → k < M → -A ≤ a i k ∧ a i k ≤ A) (hb : ∀ i k, i < M → k < D → -B ≤ b i k ∧ b i k ≤ B) {i k : Nat} (hi : i < R) (hk : k < D) :
    ∀ m, m ≤ M → -(A * B * m) ≤ mulI m a b i k ∧ mulI m a b i k ≤ A * B * m := by
  intro m
  induction m with
  | zero => intro _; simp [mulI_zero]
  | succ m ih =>
    intro hm
    have h1 := ih (by omega)
    have h2 := mul_bound (ha i m hi (by omega)) (hb m k (by omega) hk)
    rw [mulI_succ]
    have : A * B * ((m + 1 : Nat) : Int) = A * B * (m : Int) + A * B := by rw [Int.natCast_add, Int.mul_add]; simp
    omega
/-- A row of whole numbers as a matrix. -/
def ofL (M : Nat) (ns : List Int) (i k : Nat) : Int := ns.getD (i * M + k) 0
theorem ofL_get {R M : Nat} {ns : List Int} (h : ns.length = R * M) {i k : Nat} (hi : i < R) (hk : k < M) : ns[i * M + k]? = some (ofL M ns i k) := by
  have := mk_idx hi hk
  simp [ofL, List.getElem?_eq_getElem (show i * M + k < ns.length by omega)]
theorem ofL_mk {R M : Nat} {ns : List Int} (h : ns.length = R * M) : ns = mk R M (ofL M ns) := mk_of 0 ns h
theorem ofL_sml {A : Int} {R M : Nat} {ns : List Int} (h : ns.length = R * M) (hs : Sml A ns) : ∀ i k, i < R → k < M → -A ≤ ofL M ns i k ∧ ofL M ns i k ≤ A := fun i k hi hk => hs _ (List.mem_of_getElem? (ofL_get h hi hk))
end Go.Proofs.YtlbmkjicbkfmjaaGreat

/- Contracts of layer 6's Same, Alike. -/
namespace Go.Proofs.YtlbmkjicbkfmjaaGreat
open Go.RowKit
set_option linter.unusedSimpArgs false
set_option linter.unusedVariables false

theorem neq_selfV (r : Fr) (w : World) : (binOp .neq 66 (frV r) (frV r)).run Tryz.prog w = .ok (.bool false) w := by
  rw [neq_fr, eqR_self]; rfl
end Go.Proofs.YtlbmkjicbkfmjaaGreat

/- Contract of layer 6's Alike. -/
namespace Go.Proofs.YtlbmkjicbkfmjaaGreat
open Go.RowKit
set_option linter.unusedSimpArgs false
set_option linter.unusedVariables false

/-- Two rows of the same numbers, cell by cell. -/
theorem rq_cells {p : Option Addr} {n cap : Nat} {xs : List Fr} {w : World} (h : Rq 3 cellsF w (.slice p n cap) xs) : ∀ k x, xs[k]? = some x → ∃ b o, p = some ⟨b, o, none⟩ ∧ ∀ u, Bl w u → u.cell? ⟨b, o + k * 3, none⟩ = some (.int .i64 x.n) ∧ u.cell? ⟨b, o + k * 3 + 1, none⟩ = some (.int .i64 x.d) ∧ u.cell? ⟨b, o + k * 3 + 2, none⟩ = some (.bool x.bad) := by
  intro k x hk
  rcases h with ⟨_, _, _, h0, _⟩ | ⟨b, o, cc, e, _, hlt, HX⟩
  · rw [h0] at hk; simp at hk
  · cases e
    exact ⟨b, o, rfl, fun u hu => ⟨(bl_cell hu _ _ hlt).trans (HX k _ hk 0 _ rfl), (bl_cell hu _ _ hlt).trans (HX k _ hk 1 _ rfl), (bl_cell hu _ _ hlt).trans (HX k _ hk 2 _ rfl)⟩⟩
end Go.Proofs.YtlbmkjicbkfmjaaGreat

/- Matrices of whole numbers, as fractions: contracts in the words of layer 6's laws; awake. -/
namespace Go.Proofs.YtlbmkjicbkfmjaaGreat
open Go.RowKit
set_option linter.unusedSimpArgs false
set_option linter.unusedVariables false

/-- All numbers of a matrix are so small. -/
def Sm2 (A : Int) (R C : Nat) (g : Nat → Nat → Int) : Prop := ∀ i k, i < R → k < C → -A ≤ g i k ∧ g i k ≤ A
/-- A matrix of whole numbers, as fractions. -/
abbrev MxI (w : World) (R C : Nat) (p : Option Addr) (n cap : Nat) (g : Nat → Nat → Int) : Prop := Mx 3 cellsF w R C p n cap (fun i k => itF (g i k))
theorem rowI_it (C : Nat) (g : Nat → Nat → Int) (i : Nat) : rowM C (fun i k => itF (g i k)) i = (rowM C g i).map itF := by simp [rowM]
theorem colI_it (R : Nat) (g : Nat → Nat → Int) (k : Nat) : colM R (fun i k => itF (g i k)) k = (colM R g k).map itF := by simp [colM]
theorem row_sml {A : Int} {R C : Nat} {g : Nat → Nat → Int} (h : Sm2 A R C g) {i : Nat} (hi : i < R) : Sml A (rowM C g i) := by
  intro x hx
  obtain ⟨k, hk, rfl⟩ := List.mem_map.1 hx
  exact h i k hi (by simpa using hk)
theorem col_sml {A : Int} {R C : Nat} {g : Nat → Nat → Int} (h : Sm2 A R C g) {k : Nat} (hk : k < C) : Sml A (colM R g k) := by
  intro x hx
  obtain ⟨i, hi, rfl⟩ := List.mem_map.1 hx
  exact h i k (by simpa using hi) hk
theorem mk_sml {A : Int} {R C : Nat} {g : Nat → Nat → Int} (h : Sm2 A R C g) : Sml A (mk R C g) := by
  intro x hx
  obtain ⟨i, hi, hx⟩ := List.mem_flatMap.1 hx
  exact row_sml h (by simpa using hi) x hx
/-- The dot of whole numbers that are small enough. -/
theorem dot_it6 {A B : Int} {xs ys : List Int} (h : Sml A xs) (k : Sml B ys) (hA : 0 ≤ A ∧ A ≤ 1073741824) (hB : 0 ≤ B ∧ B ≤ 1073741824) (hl : xs.length ≤ 16) (hAB : A * B ≤ 67108864) : dotF (xs.map itF) (ys.map itF) = itF (dotI xs ys) := by
  unfold dotF dotI
  have hp : 0 ≤ A * B := Int.mul_nonneg hA.1 hB.1
  rw [muls_it (by omega) (by omega) (by omega) xs ys h k]
  refine sum_it (B := A * B) _ (muls_sml h k) hp ?_
  have hln : (List.zipWith (· * ·) xs ys).length ≤ 16 := by simp; omega
  have := Int.mul_le_mul_of_nonneg_left (show ((List.zipWith (· * ·) xs ys).length : Int) ≤ 16 by omega) hp
  omega
theorem mulM_it {A B : Int} {R M D : Nat} {a b : Nat → Nat → Int} (ha : Sm2 A R M a) (hb : Sm2 B M D b) (hM : M ≤ 16) (hA : 0 ≤ A ∧ A ≤ 1073741824) (hB : 0 ≤ B ∧ B ≤ 1073741824) (hAB : A * B ≤ 67108864) {i k : Nat} (hi : i < R) (hk : k < D) :
    mulMF M (fun i k => itF (a i k)) (fun i k => itF (b i k)) i k = itF (mulI M a b i k) := by
  unfold mulMF mulI
  rw [rowI_it, colI_it]
  exact dot_it6 (row_sml ha hi) (col_sml hb hk) hA hB (by rw [rowM_len]; exact hM) hAB
theorem Mx.congr {α : Type} {s : Nat} {c : α → List Value} {w : World} {R C : Nat} {p : Option Addr} {n cap : Nat} {f g : Nat → Nat → α} (h : Mx s c w R C p n cap f) (e : ∀ i k, i < R → k < C → f i k = g i k) : Mx s c w R C p n cap g :=
  ⟨h.1, h.2.1, by rw [← mk_congr e]; exact h.2.2⟩
theorem mul6_any {A B : Int} (R M D : Nat) (p : Option Addr) (n cap : Nat) (a : Nat → Nat → Int) (q : Option Addr) (n2 cap2 : Nat) (b : Nat → Nat → Int) (N : Nat) (w : World) (hx : MxI w R M p n cap a) (hy : MxI w M D q n2 cap2 b) (hN : N = R * D) (ha : Sm2 A R M a) (hb : Sm2 B M D b) (hA : 0 ≤ A ∧ A ≤ 1073741824) (hB : 0 ≤ B ∧ B ≤ 1073741824) (hAB : A * B ≤ 67108864) :
    Calls Tryz.prog 113 #[mV R M p n cap, mV M D q n2 cap2] w fun e w' => ∃ p' cap', e = .returned (.tuple #[mV R D p' N cap', .bool true]) ∧ MxI w' R D p' N cap' (mulI M a b) ∧ Bl w w' := by
  refine (mMulF R M D p n cap _ q n2 cap2 _ N w hx hy hN).mono ?_
  rintro e w' ⟨p', cap', rfl, ⟨h, _, _⟩, hb'⟩
  exact ⟨p', cap', rfl, h.congr (fun i k hi hk => mulM_it ha hb hx.1.c2 hA hB hAB hi hk), hb'⟩
/-- Whole, of numbers that go together. -/
theorem whole6_any (r c : Int) (p : Option Addr) (n cap : Nat) (ns : List Int) (w : World) (hr : Rq 1 cI w (.slice p n cap) ns) (h : fitB r c n = true) (hn : ns.length = n) (hs : Sml 100 ns) :
    ∃ R C : Nat, r = R ∧ c = C ∧ Dim R C ∧ n = R * C ∧ Sm2 100 R C (ofL C ns) ∧ Calls Tryz.prog 27 #[.int .i64 r, .int .i64 c, .slice p n cap] w fun e w' => ∃ p' cap', e = .returned (.tuple #[mV R C p' n cap', .bool true]) ∧ MxI w' R C p' n cap' (ofL C ns) ∧ Bl w w' := by
  obtain ⟨R, C, rfl, rfl, hd, hn'⟩ := fitB_nat h
  refine ⟨R, C, rfl, rfl, hd, hn', ofL_sml (by omega) hs, ?_⟩
  refine (mWholeF R C p n cap ns w hr h hn).mono ?_
  rintro e w' ⟨p', cap', rfl, hR, hb⟩
  refine ⟨p', cap', rfl, ⟨hd, hn', ?_⟩, hb⟩
  have e : ns.map wholeF = mk R C (fun i k => itF (ofL C ns i k)) := by
    rw [wholes_it ns hs (by omega), ← mk_map, ← ofL_mk (by omega)]
  rw [← e]
  exact hR.q
theorem whole6_call (R C : Nat) (p : Option Addr) (n cap : Nat) (ns : List Int) (w : World) (hr : Rq 1 cI w (.slice p n cap) ns) (h : fitB R C n = true) (hn : ns.length = n) (hs : Sml 100 ns) :
    Calls Tryz.prog 27 #[.int .i64 R, .int .i64 C, .slice p n cap] w fun e w' => ∃ p' cap', e = .returned (.tuple #[mV R C p' n cap', .bool true]) ∧ MxI w' R C p' n cap' (ofL C ns) ∧ Bl w w' := by
  obtain ⟨R', C', h1, h2, _, _, _, h3⟩ := whole6_any R C p n cap ns w hr h hn hs
  obtain rfl : R = R' := by omega
  obtain rfl : C = C' := by omega
  exact h3
theorem rq_new4 (w : World) (x y z u : Int) (t : TypeId) : Rq 1 cI (w.alloc (.cells #[.int .i64 x, .int .i64 y, .int .i64 z, .int .i64 u] t)) (.slice (some ⟨w.heap.size, 0, none⟩) 4 4) [x, y, z, u] := by
  refine .inr ⟨w.heap.size, 0, 4, rfl, Nat.le_refl _, by simp, fun j v hj k s hu => ?_⟩
  rcases k with _ | k
  · simp at hu
    subst hu
    rcases j with _ | _ | _ | _ | j
    · simp at hj; subst hj; simp [go_sem]
    · simp at hj; subst hj; simp [go_sem]
    · simp at hj; subst hj; simp [go_sem]
    · simp at hj; subst hj; simp [go_sem]
    · simp at hj
  · simp at hu
/-- awake's two matrices. -/
theorem whole22 (x y z u : Int) (w : World) (t : TypeId) (hs : Sml 100 [x, y, z, u]) (b0 : Nat) (hb0 : b0 = w.heap.size) : Calls Tryz.prog 27 #[.int .i64 2, .int .i64 2, .slice (some ⟨b0, 0, none⟩) 4 4] (w.alloc (.cells #[.int .i64 x, .int .i64 y, .int .i64 z, .int .i64 u] t)) fun e w' => ∃ p' cap', e = .returned (.tuple #[mV 2 2 p' 4 cap', .bool true]) ∧ MxI w' 2 2 p' 4 cap' (ofL 2 [x, y, z, u]) ∧ Bl (w.alloc (.cells #[.int .i64 x, .int .i64 y, .int .i64 z, .int .i64 u] t)) w' := by
  subst hb0
  obtain ⟨R, C, h1, h2, _, _, _, h⟩ := whole6_any 2 2 _ 4 4 [x, y, z, u] _ (rq_new4 w x y z u t) (by decide) rfl hs
  obtain rfl : R = 2 := by omega
  obtain rfl : C = 2 := by omega
  exact h
end Go.Proofs.YtlbmkjicbkfmjaaGreat

/- Roots of squares, and what is solved, of lower triangles (layer 7). Mathematics alone. -/
namespace Go.Proofs.YtlbmkjicbkfmjaaGreat
open Go.RowKit
set_option linter.unusedSimpArgs false
set_option linter.unusedVariables false

theorem root_it {x : Int} (h0 : 0 ≤ x) (h1 : x ≤ 32768) : rootR (itF (x * x)) = itF x := by
  have hw : Wh x := ⟨by omega, by omega⟩
  have hb := mul_bound (A := 32768) (B := 32768) (a := x) (b := x) ⟨by omega, h1⟩ ⟨by omega, h1⟩
  have hm := mul_it hw hw (show Wh (x * x) from ⟨by omega, by omega⟩)
  rw [← hm]
  have := rootR_sq (n := x) (d := 1) (fine_it hw) (by omega) h1 (by decide)
  unfold itF
  rw [this]
  congr 1
  omega
theorem div_it {x y : Int} (hx : Wh x) (hy : Wh y) (hxy : Wh (x * y)) (h0 : y ≠ 0) : divR (itF (x * y)) (itF y) = itF x := by
  refine toQ_div (fine_it hxy) (fine_it hy) h0 (toQ (itF x)) ?_ _ (fine_it hx) rfl
  unfold toQ itF
  rw [Rat.divInt_mul_divInt, Int.one_mul]
/-- A lower triangle. -/
def Low {α : Type} (z : α) (s : Nat → Nat → α) : Prop := ∀ i k, i < k → s i k = z
/-- Its square, below the diagonal. -/
theorem mulI_low {s : Nat → Nat → Int} (h : Low 0 s) (i k : Nat) : ∀ M, k < M → mulI M s (fun i k => s k i) i k = mulI k s (fun i k => s k i) i k + s i k * s k k
  | 0, hk => by omega
  | M + 1, hk => by
    rw [mulI_succ]
    by_cases e : k = M
    · subst e; rfl
    · rw [mulI_low h i k M (by omega), h k M (by omega)]
      simp
/-- One more column of a root: sub, div, root, dot being those of a kind of numbers. -/
def rootStep {α : Type} (sub div : α → α → α) (root : α → α) (dot : List α → List α → α) (p m : Nat → Nat → α) (k i j : Nat) : α :=
  if j = k ∧ k ≤ i then (if i = k then root (sub (p k k) (dot (rowM k m k) (rowM k m k))) else div (sub (p i k) (dot (rowM k m i) (rowM k m k))) (root (sub (p k k) (dot (rowM k m k) (rowM k m k))))) else m i j
/-- The first columns of a root; the others are z. -/
def rootTo {α : Type} (sub div : α → α → α) (root : α → α) (dot : List α → List α → α) (z : α) (p : Nat → Nat → α) : Nat → Nat → Nat → α
  | 0 => fun _ _ => z
  | k + 1 => rootStep sub div root dot p (rootTo sub div root dot z p k) k
/-- The first columns of a triangle. -/
def colsTo {α : Type} (z : α) (s : Nat → Nat → α) (k i j : Nat) : α := if j < k then s i j else z
theorem dot_low {n : Nat} {s : Nat → Nat → Int} (hn : n ≤ 16) (hs : Sm2 100 n n s) {i j k : Nat} (hi : i < n) (hj : j < n) (hk : k ≤ n) :
    dotF ((rowM k s i).map itF) ((rowM k s j).map itF) = itF (mulI k s (fun i k => s k i) i j) ∧ -(10000 * (k : Int)) ≤ mulI k s (fun i k => s k i) i j ∧ mulI k s (fun i k => s k i) i j ≤ 10000 * (k : Int) := by
  have a : Sml 100 (rowM k s i) := row_sml (R := n) (C := k) (fun i' k' h1 h2 => hs i' k' h1 (by omega)) hi
  have b : Sml 100 (rowM k s j) := row_sml (R := n) (C := k) (fun i' k' h1 h2 => hs i' k' h1 (by omega)) hj
  constructor
  · rw [dot_it6 (A := 100) (B := 100) a b (by omega) (by omega) (by rw [rowM_len]; omega) (by omega)]
    rfl
  · have := mulI_bound (A := 100) (B := 100) (R := n) (M := n) (D := n) (a := s) (b := fun i k => s k i) (by omega) (by omega) hs (fun i k hi hk => hs k i hk hi) hi hj k hk
    constructor <;> omega
/-- The root of a triangle's square is it, in fractions. -/
theorem rootTo_it {n : Nat} {s : Nat → Nat → Int} (hn : n ≤ 16) (hs : Sm2 100 n n s) (hl : Low 0 s) (hd : ∀ k, k < n → 0 < s k k) :
    ∀ k, k ≤ n → ∀ i j, i < n → j < n → rootTo subR divR rootR dotF (itF 0) (fun i k => itF (mulI n s (fun i k => s k i) i k)) k i j = itF (colsTo 0 s k i j)
  | 0, _, i, j, _, _ => by simp [rootTo, colsTo]
  | k + 1, hk, i, j, hi, hj => by
    have ih := rootTo_it hn hs hl hd k (by omega)
    have hrow : ∀ i, i < n → rowM k (rootTo subR divR rootR dotF (itF 0) (fun i k => itF (mulI n s (fun i k => s k i) i k)) k) i = (rowM k s i).map itF := fun i hi => by
      unfold rowM
      rw [List.map_map]
      refine List.map_congr_left fun j hj => ?_
      have hj' : j < k := by simpa using hj
      rw [ih i j hi (by omega)]
      simp [colsTo, hj']
    have hkn : k < n := by omega
    have hsub : ∀ i, i < n → subR (itF (mulI n s (fun i k => s k i) i k)) (dotF ((rowM k s i).map itF) ((rowM k s k).map itF)) = itF (s i k * s k k) := fun i hi => by
      obtain ⟨e, b1, b2⟩ := dot_low hn hs hi hkn (k := k) (by omega)
      have e2 := mulI_low hl i k n hkn
      have b3 := mul_bound (A := 100) (B := 100) (hs i k hi hkn) (hs k k hkn hkn)
      rw [e, e2, sub_it ⟨by omega, by omega⟩ ⟨by omega, by omega⟩ ⟨by omega, by omega⟩]
      congr 1
      omega
    have hdk := hd k hkn
    have hb := hs k k hkn hkn
    have hroot : rootR (itF (s k k * s k k)) = itF (s k k) := root_it (by omega) (by omega)
    show rootStep subR divR rootR dotF _ _ k i j = _
    unfold rootStep
    rw [hrow i hi, hrow k hkn, hsub k hkn, hsub i hi, hroot]
    by_cases h : j = k ∧ k ≤ i
    · obtain ⟨rfl, hji⟩ := h
      rw [if_pos ⟨rfl, hji⟩]
      have ec : colsTo 0 s (j + 1) i j = s i j := by simp [colsTo]
      rw [ec]
      by_cases hij : i = j
      · subst hij; rw [if_pos rfl]
      · rw [if_neg hij]
        have b3 := mul_bound (A := 100) (B := 100) (hs i j hi hkn) hb
        have b4 := hs i j hi hkn
        exact div_it ⟨by omega, by omega⟩ ⟨by omega, by omega⟩ ⟨by omega, by omega⟩ (by omega)
    · rw [if_neg h, ih i j hi hj]
      unfold colsTo
      by_cases hjk : j < k
      · rw [if_pos hjk, if_pos (by omega)]
      · rw [if_neg hjk]
        by_cases hjk2 : j = k
        · subst hjk2
          rw [if_pos (by omega), hl i j (by omega)]
        · rw [if_neg (by omega)]
theorem rootTo_all {n : Nat} {s : Nat → Nat → Int} (hn : n ≤ 16) (hs : Sm2 100 n n s) (hl : Low 0 s) (hd : ∀ k, k < n → 0 < s k k) {i j : Nat} (hi : i < n) (hj : j < n) :
    rootTo subR divR rootR dotF (itF 0) (fun i k => itF (mulI n s (fun i k => s k i) i k)) n i j = itF (s i j) := by
  rw [rootTo_it hn hs hl hd n (Nat.le_refl _) i j hi hj]
  simp [colsTo, hj]
end Go.Proofs.YtlbmkjicbkfmjaaGreat
