/- Where a fold's triangle is fine, in fractions, its square is the square of what was folded (layer 8, HouseExact). Mathematics alone. -/
import Derived.Test.YtafjmogkiohjgaaMa0
import Derived.Test.YtafjmogkiohjgaaVeHF
import Derived.RangeFuncNested
import Derived.RangeFuncBound
import Derived.RangeFuncCalls
import Derived.RangeFuncLeaves
import Derived.Shelf.Abstract
import Derived.Shelf.RegionOpen
import Derived.OwnWalkIn
import Derived.TacticsInMore
import Derived.LoopNIn
import Derived.LoopIn
import Derived.Test.YtafjmogkiohjgaaHuA
import Derived.Test.YtafjmogkiohjgaaTr0
import Derived.Test.YtafjmogkiohjgaaFr6
import Derived.Test.YtafjmogkiohjgaaHsM
/- Contracts of mat's Right, New, Whole, of fractions (layer 6). Written by genMa.py. -/
namespace Go.Proofs.Ytafjmogkiohjgaa
open Go.RowKit
set_option linter.unusedSimpArgs false
set_option linter.unusedVariables false

theorem mRightF (r c : Int) (p : Option Addr) (n cap : Nat) (w : World) :
    Calls Try.prog 15 #[mV r c p n cap] w fun e w' => e = .returned (.bool (fitB r c n)) ∧ Bl w w' := by
  go_enter Try.func15, Try.ntmps15
  go_wp2_with fail
  refine (fits_any _ _ _ _).mono ?_
  rintro e w1 ⟨rfl, rfl⟩
  go_wp2
  go_ret
  exact ⟨rfl, (Bl.refl _).alloc _⟩
theorem mNewF_no (r c : Int) (p : Option Addr) (n cap : Nat) (w : World) (h : fitB r c n = false) :
    Calls Try.prog 30 #[.int .i64 r, .int .i64 c, .slice p n cap] w fun e w' => e = .returned (.tuple #[mV 0 0 none 0 0, .bool false]) ∧ Bl w w' := by
  go_enter Try.func30, Try.ntmps30
  go_wp2_with fail
  refine (fits_any _ _ _ _).mono ?_
  rintro e w1 ⟨rfl, rfl⟩
  rw [h]
  go_wp2
  simp [bodyPost, results, Try.results30, go_sem]
  exact (Bl.refl _).alloc _
theorem mNewF (r c : Int) (p : Option Addr) (n cap : Nat) (xs : List Fr) (w : World) (hr : Rq 3 cellsF w (.slice p n cap) xs) (h : fitB r c n = true) (hn : xs.length = n) :
    Calls Try.prog 30 #[.int .i64 r, .int .i64 c, .slice p n cap] w fun e w' => ∃ p' cap', e = .returned (.tuple #[mV r c p' n cap', .bool true]) ∧ (Rw 3 cellsF w' (.slice p' n cap') xs ∧ Fresh w.heap.size (.slice p' n cap')) ∧ Bl w w' := by
  have hl : n ≤ 1000000 := by obtain ⟨R, C, _, _, hd, rfl⟩ := fitB_nat h; have := hd.lt; omega
  obtain ⟨W, hW⟩ : ∃ W, W = w.alloc (.cells #[.int .i64 0, .int .i64 0, .slice none 0 0] 26) := ⟨_, rfl⟩
  have b0 : Bl w W := by rw [hW]; exact (Bl.refl _).alloc _
  have x0 : MBox W w.heap.size 0 0 none 0 0 := by rw [hW]; exact MBox.new w 0 0 none 0 0 _
  have hsz : W.heap.size = w.heap.size + 1 := by rw [hW]; simp
  have CL := hideP (vCloneF (.slice p n cap) xs W (hr.later b0) (by omega))
  have HW := hideP hW
  clear hW hr
  go_enter Try.func30, Try.ntmps30
  go_wp2_with fail
  rw [← HW.out]
  refine (fits_any _ _ _ _).mono ?_
  rintro e w1 ⟨rfl, rfl⟩
  rw [h]
  go_wp2_with fail
  refine CL.out.mono ?_
  rintro e w2 ⟨u, rfl, hR, hF, h2⟩
  obtain ⟨p', cap', rfl, _, _⟩ := hR.cut
  rw [hn] at hR hF ⊢
  have HR := hideP hR
  have HF := hideP hF
  obtain ⟨c0, c1, c2, f0, f1, f2, lt⟩ := x0.later h2
  clear hR hF CL
  go_wp2
  simp [bodyPost, results, Try.results30, go_sem, c0, c1, c2]
  refine ⟨p', cap', ⟨rfl, rfl⟩, ⟨((HR.out.set _ ?_).set _ ?_).set _ ?_, fun g hg => ?_⟩, Bl.put3 (b0.trans h2) (Nat.le_refl _) _ _ _⟩
  · exact fun g hg => by have := HF.out g hg; show w.heap.size + 1 ≤ g; omega
  · exact fun g hg => by have := HF.out g hg; show w.heap.size + 1 ≤ g; omega
  · exact fun g hg => by have := HF.out g hg; show w.heap.size + 1 ≤ g; omega
  · have := HF.out g hg; omega
theorem mWholeF_no (r c : Int) (p : Option Addr) (n cap : Nat) (w : World) (h : fitB r c n = false) :
    Calls Try.prog 5 #[.int .i64 r, .int .i64 c, .slice p n cap] w fun e w' => e = .returned (.tuple #[mV 0 0 none 0 0, .bool false]) ∧ Bl w w' := by
  go_enter Try.func5, Try.ntmps5
  go_wp2_with fail
  refine (fits_any _ _ _ _).mono ?_
  rintro e w1 ⟨rfl, rfl⟩
  rw [h]
  go_wp2
  simp [bodyPost, results, Try.results5, go_sem]
  exact (Bl.refl _).alloc _
theorem mWholeF (r c : Int) (p : Option Addr) (n cap : Nat) (ns : List Int) (w : World) (hr : Rq 1 (fun n => [.int .i64 n]) w (.slice p n cap) ns) (h : fitB r c n = true) (hn : ns.length = n) :
    Calls Try.prog 5 #[.int .i64 r, .int .i64 c, .slice p n cap] w fun e w' => ∃ p' cap', e = .returned (.tuple #[mV r c p' n cap', .bool true]) ∧ Rw 3 cellsF w' (.slice p' n cap') (ns.map wholeF) ∧ Bl w w' := by
  have hl : n ≤ 1000000 := by obtain ⟨R, C, _, _, hd, rfl⟩ := fitB_nat h; have := hd.lt; omega
  obtain ⟨W, hW⟩ : ∃ W, W = w.alloc (.cells #[.int .i64 0, .int .i64 0, .slice none 0 0] 26) := ⟨_, rfl⟩
  have b0 : Bl w W := by rw [hW]; exact (Bl.refl _).alloc _
  have x0 : MBox W w.heap.size 0 0 none 0 0 := by rw [hW]; exact MBox.new w 0 0 none 0 0 _
  have hsz : W.heap.size = w.heap.size + 1 := by rw [hW]; simp
  have CL := hideP (vWholeF' (.slice p n cap) ns W (hr.later b0) (by omega))
  have HW := hideP hW
  clear hW hr
  go_enter Try.func5, Try.ntmps5
  go_wp2_with fail
  rw [← HW.out]
  refine (fits_any _ _ _ _).mono ?_
  rintro e w1 ⟨rfl, rfl⟩
  rw [h]
  go_wp2_with fail
  refine CL.out.mono ?_
  rintro e w2 ⟨u, rfl, hR, hF, h2⟩
  obtain ⟨p', cap', rfl, _, _⟩ := hR.cut
  rw [List.length_map, hn] at hR hF ⊢
  have HR := hideP hR
  have HF := hideP hF
  obtain ⟨c0, c1, c2, f0, f1, f2, lt⟩ := x0.later h2
  clear hR hF CL
  go_wp2
  simp [bodyPost, results, Try.results5, go_sem, c0, c1, c2]
  refine ⟨p', cap', ⟨rfl, rfl⟩, ((HR.out.set _ ?_).set _ ?_).set _ ?_, Bl.put3 (b0.trans h2) (Nat.le_refl _) _ _ _⟩
  · exact fun g hg => by have := HF.out g hg; show w.heap.size + 1 ≤ g; omega
  · exact fun g hg => by have := HF.out g hg; show w.heap.size + 1 ≤ g; omega
  · exact fun g hg => by have := HF.out g hg; show w.heap.size + 1 ≤ g; omega
end Go.Proofs.Ytafjmogkiohjgaa

/- Contracts of mat's At, Row, of fractions (layer 6). Written by genMa.py. -/
namespace Go.Proofs.Ytafjmogkiohjgaa
open Go.RowKit
set_option linter.unusedSimpArgs false
set_option linter.unusedVariables false

theorem Try.info_MF : (Try.prog.info? 26).map (fun i => (i.zero, i.size, i.bytes)) = some (some (.agg #[.int .i64 0, .int .i64 0, .slice none 0 0]), 3, 40) := by kernel_rfl
theorem mAtF (R C : Nat) (p : Option Addr) (n cap : Nat) (f : Nat → Nat → Fr) (w : World) (h : Mx 3 cellsF w R C p n cap f) (i k : Nat) (hi : i < R) (hk : k < C) :
    Calls Try.prog 11 #[mV R C p n cap, .int .i64 i, .int .i64 k] w fun e w' => e = .returned (frV (f i k)) ∧ Bl w w' := by
  have hfit := h.fit
  obtain ⟨b, o, rfl, hc, hb, HC⟩ := h.cells
  obtain ⟨hd, hn, -⟩ := h
  have CX := HC i k hi hk
  clear HC
  have ha1 := amongB_t hi
  have ha2 := amongB_t hk
  obtain ⟨a, q, e1, e2, hq1, hq3, hq5, hq6⟩ := place hd hi hk
  rw [← e2] at CX
  rw [← hn] at hq5
  clear e1 e2
  generalize hx : f i k = x at *
  have y0 : ∀ u, Bl w u → u.cell? ⟨b, o + q * 3, none⟩ = some (.int .i64 x.n) := fun u hu => (bl_cell hu _ _ hb).trans (CX 0 _ rfl)
  have y1 : ∀ u, Bl w u → u.cell? ⟨b, o + q * 3 + 1, none⟩ = some (.int .i64 x.d) := fun u hu => (bl_cell hu _ _ hb).trans (CX 1 _ rfl)
  have y2 : ∀ u, Bl w u → u.cell? ⟨b, o + q * 3 + 2, none⟩ = some (.bool x.bad) := fun u hu => (bl_cell hu _ _ hb).trans (CX 2 _ rfl)
  clear CX hx
  have h16 := hd.lt
  rw [← hn] at h16
  clear hn
  obtain ⟨W, hW⟩ : ∃ W, W = (w.alloc (.cells #[.int .i64 R, .int .i64 C, .slice (some ⟨b, o, none⟩) n cap] 26)).alloc (.cells #[.int .i64 0, .int .i64 0, .bool false] 30) := ⟨_, rfl⟩
  have b0 : Bl w W := by rw [hW]; exact ((Bl.refl _).alloc _).alloc _
  have m0 : MBox W w.heap.size R C (some ⟨b, o, none⟩) n cap := by rw [hW]; exact (MBox.new w _ _ _ _ _ _).later ((Bl.refl _).alloc _)
  have x0 : FBox W (w.heap.size + 1) zeroR := by rw [hW]; have := FBox.new (w.alloc (.cells #[.int .i64 R, .int .i64 C, .slice (some ⟨b, o, none⟩) n cap] 26)) zeroR 30; rw [World.size_alloc] at this; exact this
  have HW := hideP hW
  clear hW
  go_enter Try.func11, Try.ntmps11
  go_wp2_with fail
  rw [← HW.out]
  refine (mRightF _ _ _ _ _ _).mono ?_
  rintro e w1 ⟨rfl, h1⟩
  rw [hfit]
  obtain ⟨c0, c1, c2, f0, f1, f2, lt⟩ := m0.later h1
  go_wp2_with fail
  refine (among_any _ _ _).mono ?_
  rintro e w2 ⟨rfl, rfl⟩
  rw [ha1]
  go_wp2_with fail
  refine (among_any _ _ _).mono ?_
  rintro e w3 ⟨rfl, rfl⟩
  rw [ha2]
  have z0 := y0 _ (b0.trans h1)
  have z1 := y1 _ (b0.trans h1)
  have z2 := y2 _ (b0.trans h1)
  obtain ⟨d0, d1, d2, g0, g1, g2, lt2⟩ := x0.later h1
  clear y0 y1 y2
  go_wp2
  simp [bodyPost, results, Try.results11, go_sem, d0, d1, d2]
  exact Bl.set3 (b0.trans h1) (Nat.le_succ _) _ _ _
theorem mAtF_no (R C : Nat) (p : Option Addr) (n cap : Nat) (w : World) (hfit : fitB R C n = true) (i k : Int) (h : ¬ ((0 ≤ i ∧ i < R) ∧ (0 ≤ k ∧ k < C))) :
    Calls Try.prog 11 #[mV R C p n cap, .int .i64 i, .int .i64 k] w fun e w' => e = .returned (frV zeroR) ∧ Bl w w' := by
  obtain ⟨W, hW⟩ : ∃ W, W = (w.alloc (.cells #[.int .i64 R, .int .i64 C, .slice p n cap] 26)).alloc (.cells #[.int .i64 0, .int .i64 0, .bool false] 30) := ⟨_, rfl⟩
  have b0 : Bl w W := by rw [hW]; exact ((Bl.refl _).alloc _).alloc _
  have m0 : MBox W w.heap.size R C p n cap := by rw [hW]; exact (MBox.new w _ _ _ _ _ _).later ((Bl.refl _).alloc _)
  have x0 : FBox W (w.heap.size + 1) zeroR := by rw [hW]; have := FBox.new (w.alloc (.cells #[.int .i64 R, .int .i64 C, .slice p n cap] 26)) zeroR 30; rw [World.size_alloc] at this; exact this
  have HW := hideP hW
  clear hW
  by_cases hi : 0 ≤ i ∧ i < R
  · have ha1 : amongB i R = true := decide_eq_true hi
    have ha2 : amongB k C = false := amongB_f (fun hk => h ⟨hi, hk⟩)
    go_enter Try.func11, Try.ntmps11
    go_wp2_with fail
    rw [← HW.out]
    refine (mRightF _ _ _ _ _ _).mono ?_
    rintro e w1 ⟨rfl, h1⟩
    rw [hfit]
    obtain ⟨c0, c1, c2, f0, f1, f2, lt⟩ := m0.later h1
    go_wp2_with fail
    refine (among_any _ _ _).mono ?_
    rintro e w2 ⟨rfl, rfl⟩
    rw [ha1]
    go_wp2_with fail
    refine (among_any _ _ _).mono ?_
    rintro e w3 ⟨rfl, rfl⟩
    rw [ha2]
    obtain ⟨d0, d1, d2, g0, g1, g2, lt2⟩ := x0.later (h1.trans ((Bl.refl _).alloc (.cells #[.int .i64 0, .int .i64 0, .bool false] 30)))
    go_wp2
    simp [bodyPost, results, Try.results11, go_sem, d0, d1, d2]
    exact ⟨by decide, Bl.set3 ((b0.trans h1).alloc _) (Nat.le_succ _) _ _ _⟩
  · have ha1 : amongB i R = false := amongB_f hi
    go_enter Try.func11, Try.ntmps11
    go_wp2_with fail
    rw [← HW.out]
    refine (mRightF _ _ _ _ _ _).mono ?_
    rintro e w1 ⟨rfl, h1⟩
    rw [hfit]
    obtain ⟨c0, c1, c2, f0, f1, f2, lt⟩ := m0.later h1
    go_wp2_with fail
    refine (among_any _ _ _).mono ?_
    rintro e w2 ⟨rfl, rfl⟩
    rw [ha1]
    obtain ⟨d0, d1, d2, g0, g1, g2, lt2⟩ := x0.later (h1.trans ((Bl.refl _).alloc (.cells #[.int .i64 0, .int .i64 0, .bool false] 30)))
    go_wp2
    simp [bodyPost, results, Try.results11, go_sem, d0, d1, d2]
    exact ⟨by decide, Bl.set3 ((b0.trans h1).alloc _) (Nat.le_succ _) _ _ _⟩
/-- A part of a row, as the program takes it. -/
theorem Try.partF (b o n cap lo hi : Nat) (w : World) (h1 : lo ≤ hi) (h2 : hi ≤ n) (h3 : n ≤ cap) (h4 : lo < cap) : (Instr.sliceAt 24 (.slice (some ⟨b, o, none⟩) n cap) (some (.int .i64 lo)) (some (.int .i64 hi)) none).run Try.prog w = .ok (.slice (some ⟨b, o + lo * 3, none⟩) (hi - lo) (cap - lo)) w := by
  have hu : Try.prog.underlying 24 = some (.slice (Try.prog.elem 24)) := by kernel_rfl
  obtain ⟨i0, hi0, hz0, hz1, hz2⟩ := info_parts Try.info_F
  have he : Try.prog.elem 24 = 30 := by kernel_rfl
  rw [run_sliceAt_slice (h := hu), run_slice_lh (ht := hu) (h0 := by omega) (h1 := by omega) (h2 := by omega), he]
  have hcm : ¬ cap = lo := by omega
  have hcm' : ¬ cap ≤ lo := by omega
  simp [sizeOf, typeInfo, hi0, sliced, Result.andThen, hz1, hcm, hcm', Addr.add]
theorem mRowF (R C : Nat) (p : Option Addr) (n cap : Nat) (f : Nat → Nat → Fr) (w : World) (h : Mx 3 cellsF w R C p n cap f) (i : Nat) (hi : i < R) :
    Calls Try.prog 32 #[mV R C p n cap, .int .i64 i] w fun e w' => ∃ p' cap', e = .returned (.slice p' C cap') ∧ (Rw 3 cellsF w' (.slice p' C cap') (rowM C f i) ∧ Fresh w.heap.size (.slice p' C cap') ∧ C ≤ cap') ∧ Bl w w' := by
  have hfit := h.fit
  obtain ⟨b, o, rfl, hc, hb, -⟩ := h.cells
  obtain ⟨hd, hn, hR⟩ := h
  have ha1 := amongB_t hi
  have h16 := hd.lt
  have hi16 : i < 16 := Nat.lt_of_lt_of_le hi hd.r2
  have hC16 := hd.c2
  have hC1 := hd.c1
  obtain ⟨a, e, e1, e2, hq1, hq3, hq5, hq6, hq7⟩ := places hd hi
  have hpt : Rq 3 cellsF w (.slice (some ⟨b, o + a * 3, none⟩) C (cap - a)) (rowM C f i) := by
    have := hR.part (lo := a) (m := C) (by rw [mk_len, hn]) (by omega) (by omega) (cap - a) (by omega)
    rw [e1, mk_row f hi] at this
    rw [e1]
    exact this
  have sl := fun u => Try.partF b o n cap a e u (by omega) (by omega) hc (by omega)
  rw [show e - a = C by omega] at sl
  have HP := hideP hpt
  rw [← hn] at h16 hq5
  clear hR hpt e1 e2 hn
  obtain ⟨W, hW⟩ : ∃ W, W = (w.alloc (.cells #[.int .i64 R, .int .i64 C, .slice (some ⟨b, o, none⟩) n cap] 26)) := ⟨_, rfl⟩
  have b0 : Bl w W := by rw [hW]; exact (Bl.refl _).alloc _
  have m0 : MBox W w.heap.size R C (some ⟨b, o, none⟩) n cap := by rw [hW]; exact MBox.new w _ _ _ _ _ _
  have HW := hideP hW
  clear hW
  go_enter Try.func32, Try.ntmps32
  go_wp2_with fail
  rw [← HW.out]
  refine (mRightF _ _ _ _ _ _).mono ?_
  rintro e w1 ⟨rfl, h1⟩
  rw [hfit]
  obtain ⟨c0, c1, c2, f0, f1, f2, lt⟩ := m0.later h1
  go_wp2_with fail
  refine (among_any _ _ _).mono ?_
  rintro e w2 ⟨rfl, rfl⟩
  rw [ha1]
  go_wp2_with fail
  refine (vCloneF _ (rowM C f i) _ (HP.out.later (b0.trans h1)) (by rw [rowM_len]; omega)).mono ?_
  rintro e w3 ⟨u, rfl, hR, hF, h3⟩
  obtain ⟨p', cap', rfl, hcl, _⟩ := hR.cut
  rw [rowM_len] at hR hF hcl ⊢
  have HR := hideP hR
  have HF := hideP hF
  clear hR hF
  go_wp2
  go_ret
  exact ⟨p', cap', rfl, ⟨HR.out, fun g hg => by have := HF.out g hg; have := (b0.trans h1).size; omega, hcl⟩, (b0.trans h1).trans h3⟩
theorem mRowF_no (R C : Nat) (p : Option Addr) (n cap : Nat) (w : World) (hfit : fitB R C n = true) (i : Int) (h : ¬ (0 ≤ i ∧ i < R)) :
    Calls Try.prog 32 #[mV R C p n cap, .int .i64 i] w fun e w' => e = .returned (.slice none 0 0) ∧ Bl w w' := by
  have ha1 : amongB i R = false := amongB_f h
  obtain ⟨W, hW⟩ : ∃ W, W = (w.alloc (.cells #[.int .i64 R, .int .i64 C, .slice p n cap] 26)) := ⟨_, rfl⟩
  have b0 : Bl w W := by rw [hW]; exact (Bl.refl _).alloc _
  have m0 : MBox W w.heap.size R C p n cap := by rw [hW]; exact MBox.new w _ _ _ _ _ _
  have HW := hideP hW
  clear hW
  go_enter Try.func32, Try.ntmps32
  go_wp2_with fail
  rw [← HW.out]
  refine (mRightF _ _ _ _ _ _).mono ?_
  rintro e w1 ⟨rfl, h1⟩
  rw [hfit]
  obtain ⟨c0, c1, c2, f0, f1, f2, lt⟩ := m0.later h1
  go_wp2_with fail
  refine (among_any _ _ _).mono ?_
  rintro e w2 ⟨rfl, rfl⟩
  rw [ha1]
  go_wp2
  go_ret
  exact ⟨rfl, b0.trans h1⟩
end Go.Proofs.Ytafjmogkiohjgaa

/- Contracts of mat's filled, Turn, of fractions (layer 6). Written by genMa.py. -/
namespace Go.Proofs.Ytafjmogkiohjgaa
open Go.RowKit
set_option linter.unusedSimpArgs false
set_option linter.unusedVariables false

set_option maxHeartbeats 1000000 in
/-- A matrix that is filled by what a function tells of each place. -/
theorem mFilledF (G mb : Nat) (eg : ∀ (args : Array Value) (w : World), (callFunc G args).run Try.prog w = .ok (.enter G args) w) (f : Nat → Nat → Fr) (R C n : Nat) (hd : Dim R C) (hn : n = R * C) (w : World)
    (hG : ∀ i k u, i < R → k < C → Bl w u → Calls Try.prog G #[.int .i64 i, .int .i64 k, .pointer (some ⟨mb, 0, none⟩)] u fun e w' => e = .returned (frV (f i k)) ∧ Bl u w') :
    Calls Try.prog 22 #[.int .i64 R, .int .i64 C, .func (.func G) #[] #[.pointer (some ⟨mb, 0, none⟩)]] w fun e w' => ∃ p' cap', e = .returned (mV R C p' n cap') ∧ (Rw 3 cellsF w' (.slice p' n cap') (mk R C f) ∧ Fresh w.heap.size (.slice p' n cap')) ∧ Bl w w' := by
  obtain ⟨i0, hi, hz0, hz1, hz2⟩ := info_parts Try.info_F
  have hRC : (R : Int) * (C : Int) = n := by rw [hn]; simp
  have hn256 : n ≤ 256 := by rw [hn]; exact hd.lt
  have hR16 := hd.r2
  have hC16 := hd.c2
  have HG := hideP hG
  have HN := hideP hn
  clear hG hn
  have z0 := MBox.new w 0 0 none 0 0 26
  go_enter Try.func22, Try.ntmps22
  go_wp2_with (at_make; refine wpList_make_own _ rfl _ _ 24 rfl (w.heap.size + 1) 30 i0 (.agg #[.int .i64 0, .int .i64 0, .bool false]) 3 Try.underlying24 hi hz0 hz1 .i64 .i64 _ n rfl rfl (by simp) (by rw [hz2]; omega) (by unfold maxLen; omega) (by simp) ?_; intro w0 hown0 hgrow0)
  have hB0 : Bl w w0 := ((Bl.refl w).alloc _).grown hgrow0 (by simp) (fun k e => by cases e)
  have hz : MBox w0 w.heap.size 0 0 none 0 0 := mbox_block z0 (hgrow0.block _ z0.lt nofun) hgrow0.size
  clear hgrow0 z0
  go_loopw [7, 15] (fun v i wr => ∃ j : Nat, i = .int .i64 j ∧ j ≤ R ∧ wr.ownsRow (w.heap.size + 1) 30 3 v (mk j C f).length ((mk j C f).flatMap cellsF) ∧ MBox wr w.heap.size 0 0 none 0 0 ∧ Bl w wr) (fun _ i _ => R - (intOf i).toNat)
  case atStart => exact ⟨0, rfl, Nat.zero_le _, by rw [World.size_alloc] at hown0; exact hown0, hz, hB0⟩
  case round =>
    clear hown0 hz hB0
    obtain ⟨j, rfl, hj, hown, hz, hB⟩ := hrel
    by_cases hlt : j < R
    · go_wp2_with fail
      go_loopw [7, 19] (fun v i wr => ∃ k : Nat, i = .int .i64 k ∧ k ≤ C ∧ wr.ownsRow (w.heap.size + 1) 30 3 v (mk j C f ++ rowM k f j).length ((mk j C f ++ rowM k f j).flatMap cellsF) ∧ MBox wr w.heap.size 0 0 none 0 0 ∧ Bl w wr) (fun _ i _ => C - (intOf i).toNat)
      case atStart => exact ⟨0, rfl, Nat.zero_le _, by simpa [rowM] using hown, hz, hB⟩
      case round =>
        clear hown hz hB
        obtain ⟨k, rfl, hk, hown, hz, hB⟩ := hrel
        by_cases hlt2 : k < C
        · have HT := hideP (show mk j C f ++ rowM (k + 1) f j = (mk j C f ++ rowM k f j) ++ [f j k] by rw [rowM_succ, List.append_assoc])
          have hlen : (mk j C f ++ rowM k f j).length ≤ 256 := by
            have h1 : j * C + k < R * C := mk_idx hlt hlt2
            have := HN.out
            rw [List.length_append, mk_len, rowM_len]
            omega
          have G1 := hideP (HG.out j k _ hlt hlt2 hB)
          generalize mk j C f ++ rowM k f j = ys at *
          generalize f j k = x at *
          go_wp2_with fail
          refine G1.out.mono ?_
          rintro e w2 ⟨rfl, h2⟩
          replace hown := own_blF hown h2
          replace hz := hz.later h2
          replace hB := hB.trans h2
          have hys := hlen
          clear G1
          go_wp2_with (at_builtin; refine wpList_append_own _ rfl _ _ 24 rfl (w.heap.size + 1) 30 i0 (.agg #[.int .i64 0, .int .i64 0, .bool false]) 3 24 Try.underlying24 hi hz0 hz1 hz2 rfl (by decide) _ _ _ rfl (hown.alloc _) ⟨_, 0, none⟩ 1 1 (cellsF x) rfl rfl (newF_cells _ _ _) (oneF_cells _) (by unfold maxLen; omega) (by omega) (by have := hB.size; have := hz.lt; simp; omega) ?_; intro v' w1 hown' hgrow _)
          have R1 := own_more (ys := [x]) (hB.alloc _) (Nat.le_succ _) (hown.alloc _) (by simpa using hown') rfl hgrow
          have Z1 := (hz.later ((Bl.refl _).alloc _)).grown (hown.alloc _) hgrow (Nat.lt_succ_self _)
          clear hown hown' hgrow hz
          go_wp2
          go_roundw
          case rel => exact ⟨k + 1, by simp, hlt2, by rw [HT.out]; exact R1.2, Z1, R1.1⟩
          case measure => simp [intOf]; omega
        · obtain rfl : k = C := by omega
          have HT := hideP (mk_succ j k f)
          go_wp2_with fail
          go_roundw
          case rel => exact ⟨j + 1, by simp, hlt, by rw [HT.out]; exact hown, hz, hB⟩
          case measure => simp [intOf]; omega
    · obtain rfl : j = R := by omega
      have RW := hideP (Rw.of_own cellsF_len hown)
      have FR := hideP (show Fresh (w.heap.size + 1) _ from fun g hg => (hown.lt g hg).1)
      obtain ⟨p', cap', hv, hcc, _⟩ := RW.out.cut
      rw [mk_len, ← HN.out] at hv
      have HV := hideP hv
      clear hv
      obtain ⟨c0, c1, c2, f0, f1, f2, lt⟩ := hz
      clear hown
      rename_i v
      obtain rfl := HV.out
      go_wp2
      simp [bodyPost, results, Try.results22, go_sem, c0, c1, c2]
      refine ⟨p', cap', ⟨rfl, rfl⟩, ⟨((RW.out.set _ FR.out).set _ FR.out).set _ FR.out, fun g hg => by have := FR.out g hg; omega⟩, Bl.put3 hB (Nat.le_refl _) _ _ _⟩
theorem mTurn1F (R C : Nat) (p : Option Addr) (n cap : Nat) (f : Nat → Nat → Fr) (w : World) (h : Mx 3 cellsF w R C p n cap f) (mb : Nat) (hm : MBox w mb R C p n cap) (i k : Nat) (hi : i < C) (hk : k < R) :
    Calls Try.prog 23 #[.int .i64 i, .int .i64 k, .pointer (some ⟨mb, 0, none⟩)] w fun e w' => e = .returned (frV (f k i)) ∧ Bl w w' := by
  have A := hideP (fun u (hu : Bl w u) => mAtF R C p n cap f u (h.later hu) k i hk hi)
  obtain ⟨W, hW⟩ : ∃ W, W = w.alloc (.cells #[.int .i64 0, .int .i64 0, .bool false] 30) := ⟨_, rfl⟩
  have b0 : Bl w W := by rw [hW]; exact (Bl.refl _).alloc _
  have x0 : FBox W w.heap.size zeroR := by rw [hW]; exact FBox.new w zeroR 30
  obtain ⟨c0, c1, c2, f0, f1, f2, lt⟩ := hm
  have HW := hideP hW
  clear hW h
  generalize f k i = x at *
  go_enter Try.func23, Try.ntmps23
  go_wp2_with fail
  rw [← HW.out]
  refine (A.out _ b0).mono ?_
  rintro e w1 ⟨rfl, h1⟩
  clear c0 c1 c2 f0 f1 f2 A
  obtain ⟨d0, d1, d2, g0, g1, g2, lt2⟩ := x0.later h1
  go_wp2
  simp [bodyPost, results, Try.results23, go_sem, d0, d1, d2]
  exact Bl.set3 (b0.trans h1) (Nat.le_refl _) _ _ _
theorem mTurnF (R C : Nat) (p : Option Addr) (n cap : Nat) (f : Nat → Nat → Fr) (w : World) (h : Mx 3 cellsF w R C p n cap f) :
    Calls Try.prog 9 #[mV R C p n cap] w fun e w' => ∃ p' cap', e = .returned (mV C R p' n cap') ∧ (Mx 3 cellsF w' C R p' n cap' (fun i k => f k i) ∧ Rw 3 cellsF w' (.slice p' n cap') (mk C R (fun i k => f k i)) ∧ Fresh w.heap.size (.slice p' n cap')) ∧ Bl w w' := by
  have hfit := h.fit
  obtain ⟨W, hW⟩ : ∃ W, W = (w.alloc (.cells #[.int .i64 R, .int .i64 C, .slice p n cap] 26)).alloc (.cells #[.int .i64 0, .int .i64 0, .slice none 0 0] 26) := ⟨_, rfl⟩
  have b0 : Bl w W := by rw [hW]; exact ((Bl.refl _).alloc _).alloc _
  have m0 : MBox W w.heap.size R C p n cap := by rw [hW]; exact (MBox.new w _ _ _ _ _ _).later ((Bl.refl _).alloc _)
  have x0 : MBox W (w.heap.size + 1) 0 0 none 0 0 := by rw [hW]; have := MBox.new (w.alloc (.cells #[.int .i64 R, .int .i64 C, .slice p n cap] 26)) 0 0 none 0 0 26; rw [World.size_alloc] at this; exact this
  have hs : W.heap.size = w.heap.size + 1 + 1 := by rw [hW]; simp
  have FI := hideP (fun u (hu : Bl W u) => mFilledF 23 w.heap.size (enters_of Try.func23 (by kernel_rfl) rfl) (fun i k => f k i) C R n h.1.turn (by rw [h.2.1, Nat.mul_comm]) u
    (fun i k v hi hk hv => mTurn1F R C p n cap f v (h.later (b0.trans (hu.trans hv))) _ (m0.later (hu.trans hv)) i k hi hk))
  have HD := hideP h
  have HW := hideP hW
  clear hW h
  go_enter Try.func9, Try.ntmps9
  go_wp2_with fail
  rw [← HW.out]
  refine (mRightF _ _ _ _ _ _).mono ?_
  rintro e w1 ⟨rfl, h1⟩
  rw [hfit]
  obtain ⟨c0, c1, c2, f0, f1, f2, lt⟩ := m0.later h1
  go_wp2_with fail
  refine (FI.out _ h1).mono ?_
  rintro e w2 ⟨p', cap', rfl, ⟨hR, hF⟩, h2⟩
  have HR := hideP hR
  have HF := hideP (show Fresh (w.heap.size + 1 + 1) (.slice p' n cap') from fun g hg => by have := hF g hg; have := h1.size; omega)
  clear hR hF FI c0 c1 c2 f0 f1 f2
  obtain ⟨c0, c1, c2, f0, f1, f2, lt2⟩ := x0.later (h1.trans h2)
  go_wp2
  simp [bodyPost, results, Try.results9, go_sem, c0, c1, c2]
  have q := ((HR.out.set (p := ⟨w.heap.size + 1, 0, none⟩) (.int .i64 C) HF.out).set (p := ⟨w.heap.size + 1, 1, none⟩) (.int .i64 R) HF.out).set (p := ⟨w.heap.size + 1, 2, none⟩) (.slice p' n cap') HF.out
  refine ⟨p', cap', ⟨rfl, rfl⟩, ⟨⟨HD.out.1.turn, by rw [HD.out.2.1, Nat.mul_comm], q.q⟩, q, fun g hg => by have := HF.out g hg; omega⟩, Bl.put3 ((b0.trans h1).trans h2) (Nat.le_succ _) _ _ _⟩
end Go.Proofs.Ytafjmogkiohjgaa

/- Contracts of mat's All, and of what it tells: an iterator over a matrix's rows, of fractions (layer 6). Written by genMa.py. -/
namespace Go.Proofs.Ytafjmogkiohjgaa
open Go.RowKit Go.Shelf
set_option linter.unusedSimpArgs false
set_option linter.unusedVariables false
attribute [local go_sem] Oper.semAt_some
theorem mAllF (R C : Nat) (p : Option Addr) (n cap : Nat) (f : Nat → Nat → Fr) (w : World) (h : Mx 3 cellsF w R C p n cap f) :
    Calls Try.prog 16 #[mV R C p n cap] w fun e w' => ∃ B p' cap', e = .returned (.func (.func 31) #[] #[.pointer (some ⟨B, 0, none⟩)]) ∧ KeptIn 3 cellsF w' w.heap.size w'.heap.size B R C p' n cap' f ∧ Bl w w' := by
  have hfit := h.fit
  obtain ⟨W, hW⟩ : ∃ W, W = (w.alloc (.cells #[.int .i64 R, .int .i64 C, .slice p n cap] 26)) := ⟨_, rfl⟩
  have b0 : Bl w W := by rw [hW]; exact (Bl.refl _).alloc _
  have m0 : MBox W w.heap.size R C p n cap := by rw [hW]; exact MBox.new w _ _ _ _ _ _
  have NW := hideP (mNewF R C p n cap (mk R C f) W (h.2.2.later b0) hfit (by rw [mk_len, h.2.1]))
  have HD := hideP h
  obtain ⟨c0, c1, c2, f0, f1, f2, lt⟩ := m0
  have HW := hideP hW
  clear hW h
  go_enter Try.func16, Try.ntmps16
  go_wp2_with fail
  rw [← HW.out]
  refine NW.out.mono ?_
  rintro e w1 ⟨p', cap', rfl, ⟨hR, hF⟩, h1⟩
  have HR := hideP hR
  have HF := hideP hF
  clear hR hF NW c0 c1 c2 f0 f1 f2
  go_wp2
  go_ret
  have hb : Bl w w1 := b0.trans h1
  refine ⟨w1.heap.size, p', cap', rfl, ?_, hb.alloc _⟩
  exact ⟨HD.out.1, HD.out.2.1, MBox.new w1 _ _ _ _ _ _, hb.size, by simp, HR.out.later ((Bl.refl _).alloc _), fun g hg => ⟨by have := HF.out g hg; have := b0.size; omega, by have := HR.out.lt g hg; simp; omega⟩⟩
theorem Try.yieldMF (l : Nat) (w : World) : (binOp .eql 51 (.func (.yield l) #[] #[]) .nilFunc).run Try.prog w = .ok (.bool false) w := by kernel_rfl
set_option maxRecDepth 100000 in
set_option maxHeartbeats 2000000 in
theorem iterMF (m l B lo hi R C : Nat) (p : Option Addr) (n cap : Nat) (f : Nat → Nat → Fr) (J Jx : List RowX → World → Prop) (W : World) (hJ : AbidesFrom W.heap.size J) (hh : hi ≤ W.heap.size)
    (hY : ∀ pre x W0 W1, J pre W0 → RowOk 3 cellsF R C f x W0 W1 → pre.length < R → YieldAt Fence.wide (m - 1) Try.prog l #[.int .i64 x.1, rowV C x] W1 fun e W' =>
      (e = .returned (.bool true) ∧ J (pre ++ [x]) W' ∧ Span lo hi W1 W') ∨ (e = .returned (.bool false) ∧ Jx (pre ++ [x]) W'))
    (hP : KeptIn 3 cellsF W lo hi B R C p n cap f) (h0 : J [] W) :
    CallsIn Fence.wide m Try.prog 31 #[.func (.yield l) #[] #[], .pointer (some ⟨B, 0, none⟩)] W fun e W' => (∃ v, e = .returned v) ∧
      ((∃ zs : List RowX, zs.map (·.1) = List.range R ∧ J zs W') ∨ (∃ pre : List RowX, pre.map (·.1) <+: List.range R ∧ Jx pre W')) := by
  have yn := Try.yieldMF l
  have HP := hideP hP
  have hR16 := hP.hd.r2
  obtain ⟨c0, c1, c2, f0, f1, f2, lt⟩ := hP.box
  clear hP
  refine callsIn_of_wp Try.func31 rfl trivial ?_ rfl
  simp only [Try.ntmps31, List.size_toArray, List.length_cons, List.length_nil, Nat.reduceAdd, Nat.reduceSub, Array.replicate_succ, Array.replicate_zero, List.push_toArray, List.append_toArray, List.nil_append, List.cons_append]
  gi_wp2
  clear c0 c1 c2 f0 f1 f2
  gi_loopw [8] (fun i wr => ∃ (k : Nat) (pre : List RowX), k ≤ R ∧ i = .int .i64 k ∧ pre.map (·.1) = List.range k ∧ J pre wr ∧ Span lo hi W wr) (fun i _ => R - (intOf i).toNat)
  case atStart => exact ⟨0, [], Nat.zero_le _, rfl, rfl, h0, Span.refl _ _ _⟩
  case round =>
    obtain ⟨k, pre, hk, rfl, hpre, hJs, hsp⟩ := hrel
    have hlen : pre.length = k := by have := congrArg List.length hpre; simpa using this
    have HPR := hideP hpre
    clear hpre
    by_cases hlt : k < R
    · have HKK := hideP (HP.out.later hsp)
      obtain ⟨c0, c1, c2, f0, f1, f2, lt⟩ := HKK.out.box
      gi_wp2_with fail
      refine ⟨trivial, fun h => (by cases h), ?_⟩
      refine (callsIn_wide.2 (mRowF R C p n cap f _ HKK.out.mx k hlt)).mono ?_
      rintro e w1 ⟨p', cap', rfl, ⟨hR, hF, hcc⟩, h1⟩
      obtain ⟨fn, tmps, assign, body, hyd, hR2⟩ := hY pre (k, p', cap') _ w1 hJs ⟨h1, hlt, hR, hF, hcc⟩ (by omega)
      dsimp only at hyd
      clear c0 c1 c2 f0 f1 f2 hR hF
      have hR3 : RoundIn Fence.wide (m - 1) Try.prog l fn tmps assign body w1 fun e W' => ∃ r : Bool, e = .returned (.bool r) ∧ ((r = true ∧ J (pre ++ [(k, p', cap')]) W' ∧ Span lo hi w1 W') ∨ (r = false ∧ Jx (pre ++ [(k, p', cap')]) W')) := by
        refine hR2.mono ?_
        rintro e W' (⟨rfl, h1, h2⟩ | ⟨rfl, h1⟩)
        · exact ⟨true, rfl, .inl ⟨rfl, h1, h2⟩⟩
        · exact ⟨false, rfl, .inr ⟨rfl, h1⟩⟩
      gi_wp2_with fail
      refine ⟨fun h => (by cases h), ?_⟩
      refine hR3.mono ?_
      rintro e W3 ⟨r, rfl, hr⟩
      have sp1 : Span lo hi W w1 := hsp.trans (h1.span (by have := hsp.size; omega))
      have HT := hideP (show (pre ++ [((k, p', cap') : RowX)]).map (·.1) = List.range (k + 1) by rw [List.map_append, HPR.out, List.range_succ]; rfl)
      rcases hr with ⟨rfl, hJ3, hk3⟩ | ⟨rfl, hJx3⟩
      · gi_wp2
        go_roundw
        case rel => exact ⟨k + 1, _, by omega, by simp, HT.out, hJ3, sp1.trans hk3⟩
        case measure => simp [intOf]; omega
      · gi_wp2
        refine bodyPost_ret (results_none rfl _ _ _) rfl ?_
        exact ⟨⟨_, rfl⟩, .inr ⟨_, by rw [HT.out]; exact range_pre hlt, hJx3⟩⟩
    · obtain rfl : k = R := by omega
      have HJ := hideP hJs
      clear hJs
      gi_wp2
      go_end0
      exact ⟨⟨_, rfl⟩, .inl ⟨pre, HPR.out, HJ.out⟩⟩
/-- All's function as what a loop goes through: all rows in their order, or the first ones, where a round has said that it is enough. -/
theorem seqMF (m B lo hi R C : Nat) (p : Option Addr) (n cap : Nat) (f : Nat → Nat → Fr) (w : World) (hh : hi ≤ w.heap.size) (hP : KeptIn 3 cellsF w lo hi B R C p n cap f) :
    SeqV Fence.wide m Try.prog 31 #[.pointer (some ⟨B, 0, none⟩)] (fun x : RowX => #[.int .i64 x.1, rowV C x]) (RowOk 3 cellsF R C f) (Span lo hi) (fun zs => zs.map (·.1) = List.range R) (fun pre => pre.map (·.1) <+: List.range R) R w :=
  fun l J Jx W hW hJ _ hY h0 => iterMF m l B lo hi R C p n cap f J Jx W hJ (Nat.le_trans hh hW.size) hY (hP.later (Bl.span hW hh)) h0
end Go.Proofs.Ytafjmogkiohjgaa

/- Contracts of Clone, Row, All, New where what is told lies in a block of its own that may be changed, of fractions (layer 8). Written by genHu.py. -/
namespace Go.Proofs.Ytafjmogkiohjgaa
open Go.RowKit Go.Shelf
set_option linter.unusedSimpArgs false
set_option linter.unusedVariables false
attribute [local go_sem] Oper.semAt_some
set_option maxHeartbeats 1000000 in
theorem vCloneZF (v : Value) (xs : List Fr) (w : World) (h : Rq 3 cellsF w v xs) (hl : xs.length ≤ 1000000) (hne : xs ≠ []) :
    Calls Try.prog 42 #[v] w fun e w' => ∃ u, e = .returned u ∧ RwZ 3 cellsF w' w.heap.size u xs ∧ Bl w w' := by
  have n0 := Try.nil0F
  have n1 := Try.nil1F
  obtain ⟨i0, hi, hz0, hz1, hz2⟩ := info_parts Try.info_F
  rcases h with ⟨p, cap, rfl, rfl, hpn⟩ | ⟨b, o, cap, rfl, hc, hb, hx⟩
  · exact absurd rfl hne
  · have HX := hideP hx
    clear hx n0
    go_enter Try.func42, Try.ntmps42
    go_wp2_with (at_builtin; refine wpList_append_own _ rfl _ _ 24 rfl w.heap.size 30 i0 (.agg #[.int .i64 0, .int .i64 0, .bool false]) 3 24 Try.underlying24 hi hz0 hz1 hz2 rfl (by decide) _ 0 [] rfl (World.ownsRow_made w #[] 0 (Nat.le_refl _) (by decide) rfl) ⟨b, o, none⟩ xs.length cap (xs.flatMap cellsF) rfl (flat_len cellsF_len xs) (flat_cells cellsF_len ((Rw_cells_later HX.out hb ((Bl.refl _).alloc _)))) (flat_one oneF_cells xs) (by unfold maxLen; omega) (by omega) (by simp) ?_; intro v' w1 hown' hgrow _)
    have R := hideP (RwZ.of_own (xs := xs) cellsF_len (by simpa using hown') hne)
    have hB : Bl w w1 := Below.grown (Below.alloc (Bl.refl w) (Nat.le_refl _) _) hgrow (by simp) (fun k e => by cases e; exact Nat.le_refl _)
    clear hown' hgrow
    go_wp2
    go_ret
    exact ⟨_, rfl, R.out, hB⟩
theorem RwZ.base {α : Type} {s : Nat} {c : α → List Value} {w : World} {lo lo' : Nat} {v : Value} {xs : List α} (h : RwZ s c w lo v xs) (k : lo' ≤ lo) : RwZ s c w lo' v xs := by
  obtain ⟨b, cap, e, hc, hlo, r⟩ := h
  exact ⟨b, cap, e, hc, Nat.le_trans k hlo, r⟩
theorem mRowZF (R C : Nat) (p : Option Addr) (n cap : Nat) (f : Nat → Nat → Fr) (w : World) (h : Mx 3 cellsF w R C p n cap f) (i : Nat) (hi : i < R) :
    Calls Try.prog 32 #[mV R C p n cap, .int .i64 i] w fun e w' => ∃ p' cap', e = .returned (.slice p' C cap') ∧ (RwZ 3 cellsF w' w.heap.size (.slice p' C cap') (rowM C f i) ∧ C ≤ cap') ∧ Bl w w' := by
  have hfit := h.fit
  obtain ⟨b, o, rfl, hc, hb, -⟩ := h.cells
  obtain ⟨hd, hn, hR⟩ := h
  have ha1 := amongB_t hi
  have h16 := hd.lt
  have hi16 : i < 16 := Nat.lt_of_lt_of_le hi hd.r2
  have hC16 := hd.c2
  have hC1 := hd.c1
  obtain ⟨a, e, e1, e2, hq1, hq3, hq5, hq6, hq7⟩ := places hd hi
  have hpt : Rq 3 cellsF w (.slice (some ⟨b, o + a * 3, none⟩) C (cap - a)) (rowM C f i) := by
    have := hR.part (lo := a) (m := C) (by rw [mk_len, hn]) (by omega) (by omega) (cap - a) (by omega)
    rw [e1, mk_row f hi] at this
    rw [e1]
    exact this
  have sl := fun u => Try.partF b o n cap a e u (by omega) (by omega) hc (by omega)
  rw [show e - a = C by omega] at sl
  have HP := hideP hpt
  rw [← hn] at h16 hq5
  clear hR hpt e1 e2 hn
  obtain ⟨W, hW⟩ : ∃ W, W = (w.alloc (.cells #[.int .i64 R, .int .i64 C, .slice (some ⟨b, o, none⟩) n cap] 26)) := ⟨_, rfl⟩
  have b0 : Bl w W := by rw [hW]; exact (Bl.refl _).alloc _
  have m0 : MBox W w.heap.size R C (some ⟨b, o, none⟩) n cap := by rw [hW]; exact MBox.new w _ _ _ _ _ _
  have HW := hideP hW
  clear hW
  go_enter Try.func32, Try.ntmps32
  go_wp2_with fail
  rw [← HW.out]
  refine (mRightF _ _ _ _ _ _).mono ?_
  rintro e w1 ⟨rfl, h1⟩
  rw [hfit]
  obtain ⟨c0, c1, c2, f0, f1, f2, lt⟩ := m0.later h1
  go_wp2_with fail
  refine (among_any _ _ _).mono ?_
  rintro e w2 ⟨rfl, rfl⟩
  rw [ha1]
  go_wp2_with fail
  refine (vCloneZF _ (rowM C f i) _ (HP.out.later (b0.trans h1)) (by rw [rowM_len]; omega) (by intro e; have := congrArg List.length e; rw [rowM_len] at this; simp at this; omega)).mono ?_
  rintro e w3 ⟨u, rfl, hR, h3⟩
  obtain ⟨p', cap', rfl, hcl, _⟩ := hR.rw.cut
  rw [rowM_len] at hR hcl ⊢
  have HR := hideP hR
  clear hR
  go_wp2
  go_ret
  exact ⟨p', cap', rfl, ⟨HR.out.base (b0.trans h1).size, hcl⟩, (b0.trans h1).trans h3⟩
/-- What holds of a row that an iterator tells, where it may be changed. -/
def RowOkZ {α : Type} (s : Nat) (c : α → List Value) (R C : Nat) (f : Nat → Nat → α) (x : RowX) (W0 W : World) : Prop :=
  Bl W0 W ∧ x.1 < R ∧ RwZ s c W W0.heap.size (rowV C x) (rowM C f x.1) ∧ C ≤ x.2.2
set_option maxRecDepth 100000 in
set_option maxHeartbeats 2000000 in
theorem iterMZF (m l B lo hi R C : Nat) (p : Option Addr) (n cap : Nat) (f : Nat → Nat → Fr) (J Jx : List RowX → World → Prop) (W : World) (hJ : AbidesFrom W.heap.size J) (hh : hi ≤ W.heap.size)
    (hY : ∀ pre x W0 W1, J pre W0 → RowOkZ 3 cellsF R C f x W0 W1 → pre.length < R → YieldAt Fence.wide (m - 1) Try.prog l #[.int .i64 x.1, rowV C x] W1 fun e W' =>
      (e = .returned (.bool true) ∧ J (pre ++ [x]) W' ∧ Span lo hi W1 W') ∨ (e = .returned (.bool false) ∧ Jx (pre ++ [x]) W'))
    (hP : KeptIn 3 cellsF W lo hi B R C p n cap f) (h0 : J [] W) :
    CallsIn Fence.wide m Try.prog 31 #[.func (.yield l) #[] #[], .pointer (some ⟨B, 0, none⟩)] W fun e W' => (∃ v, e = .returned v) ∧
      ((∃ zs : List RowX, zs.map (·.1) = List.range R ∧ J zs W') ∨ (∃ pre : List RowX, pre.map (·.1) <+: List.range R ∧ Jx pre W')) := by
  have yn := Try.yieldMF l
  have HP := hideP hP
  have hR16 := hP.hd.r2
  obtain ⟨c0, c1, c2, f0, f1, f2, lt⟩ := hP.box
  clear hP
  refine callsIn_of_wp Try.func31 rfl trivial ?_ rfl
  simp only [Try.ntmps31, List.size_toArray, List.length_cons, List.length_nil, Nat.reduceAdd, Nat.reduceSub, Array.replicate_succ, Array.replicate_zero, List.push_toArray, List.append_toArray, List.nil_append, List.cons_append]
  gi_wp2
  clear c0 c1 c2 f0 f1 f2
  gi_loopw [8] (fun i wr => ∃ (k : Nat) (pre : List RowX), k ≤ R ∧ i = .int .i64 k ∧ pre.map (·.1) = List.range k ∧ J pre wr ∧ Span lo hi W wr) (fun i _ => R - (intOf i).toNat)
  case atStart => exact ⟨0, [], Nat.zero_le _, rfl, rfl, h0, Span.refl _ _ _⟩
  case round =>
    obtain ⟨k, pre, hk, rfl, hpre, hJs, hsp⟩ := hrel
    have hlen : pre.length = k := by have := congrArg List.length hpre; simpa using this
    have HPR := hideP hpre
    clear hpre
    by_cases hlt : k < R
    · have HKK := hideP (HP.out.later hsp)
      obtain ⟨c0, c1, c2, f0, f1, f2, lt⟩ := HKK.out.box
      gi_wp2_with fail
      refine ⟨trivial, fun h => (by cases h), ?_⟩
      refine (callsIn_wide.2 (mRowZF R C p n cap f _ HKK.out.mx k hlt)).mono ?_
      rintro e w1 ⟨p', cap', rfl, ⟨hR, hcc⟩, h1⟩
      obtain ⟨fn, tmps, assign, body, hyd, hR2⟩ := hY pre (k, p', cap') _ w1 hJs ⟨h1, hlt, hR, hcc⟩ (by omega)
      dsimp only at hyd
      clear c0 c1 c2 f0 f1 f2 hR
      have hR3 : RoundIn Fence.wide (m - 1) Try.prog l fn tmps assign body w1 fun e W' => ∃ r : Bool, e = .returned (.bool r) ∧ ((r = true ∧ J (pre ++ [(k, p', cap')]) W' ∧ Span lo hi w1 W') ∨ (r = false ∧ Jx (pre ++ [(k, p', cap')]) W')) := by
        refine hR2.mono ?_
        rintro e W' (⟨rfl, h1, h2⟩ | ⟨rfl, h1⟩)
        · exact ⟨true, rfl, .inl ⟨rfl, h1, h2⟩⟩
        · exact ⟨false, rfl, .inr ⟨rfl, h1⟩⟩
      gi_wp2_with fail
      refine ⟨fun h => (by cases h), ?_⟩
      refine hR3.mono ?_
      rintro e W3 ⟨r, rfl, hr⟩
      have sp1 : Span lo hi W w1 := hsp.trans (h1.span (by have := hsp.size; omega))
      have HT := hideP (show (pre ++ [((k, p', cap') : RowX)]).map (·.1) = List.range (k + 1) by rw [List.map_append, HPR.out, List.range_succ]; rfl)
      rcases hr with ⟨rfl, hJ3, hk3⟩ | ⟨rfl, hJx3⟩
      · gi_wp2
        go_roundw
        case rel => exact ⟨k + 1, _, by omega, by simp, HT.out, hJ3, sp1.trans hk3⟩
        case measure => simp [intOf]; omega
      · gi_wp2
        refine bodyPost_ret (results_none rfl _ _ _) rfl ?_
        exact ⟨⟨_, rfl⟩, .inr ⟨_, by rw [HT.out]; exact range_pre hlt, hJx3⟩⟩
    · obtain rfl : k = R := by omega
      have HJ := hideP hJs
      clear hJs
      gi_wp2
      go_end0
      exact ⟨⟨_, rfl⟩, .inl ⟨pre, HPR.out, HJ.out⟩⟩
theorem seqMZF (m B lo hi R C : Nat) (p : Option Addr) (n cap : Nat) (f : Nat → Nat → Fr) (w : World) (hh : hi ≤ w.heap.size) (hP : KeptIn 3 cellsF w lo hi B R C p n cap f) :
    SeqV Fence.wide m Try.prog 31 #[.pointer (some ⟨B, 0, none⟩)] (fun x : RowX => #[.int .i64 x.1, rowV C x]) (RowOkZ 3 cellsF R C f) (Span lo hi) (fun zs => zs.map (·.1) = List.range R) (fun pre => pre.map (·.1) <+: List.range R) R w :=
  fun l J Jx W hW hJ _ hY h0 => iterMZF m l B lo hi R C p n cap f J Jx W hJ (Nat.le_trans hh hW.size) hY (hP.later (Bl.span hW hh)) h0
theorem RwZ.set {α : Type} {s : Nat} {c : α → List Value} {w : World} {lo : Nat} {v : Value} {xs : List α} (h : RwZ s c w lo v xs) {p : Addr} (u : Value) (hf : p.block < lo) : RwZ s c (w.setCell p u) lo v xs := by
  obtain ⟨b, cap, rfl, hc, hlo, hb, hz, hx⟩ := h
  have hk : (w.setCell p u).heap[b]? = w.heap[b]? := Below.heap_setCell _ _ _ b (by omega)
  exact ⟨b, cap, rfl, hc, hlo, by simpa using hb, fun o => (World.frozen?_of_block (a := ⟨b, o, none⟩) hk).trans (hz o), fun j x hj k v hv => (World.cell?_of_block (a := ⟨b, j * s + k, none⟩) hk).trans (hx j x hj k v hv)⟩
theorem mNewZF (r c : Int) (p : Option Addr) (n cap : Nat) (xs : List Fr) (w : World) (hr : Rq 3 cellsF w (.slice p n cap) xs) (h : fitB r c n = true) (hn : xs.length = n) :
    Calls Try.prog 30 #[.int .i64 r, .int .i64 c, .slice p n cap] w fun e w' => ∃ p' cap', e = .returned (.tuple #[mV r c p' n cap', .bool true]) ∧ RwZ 3 cellsF w' w.heap.size (.slice p' n cap') xs ∧ Bl w w' := by
  have hl : n ≤ 1000000 := by obtain ⟨R, C, _, _, hd, rfl⟩ := fitB_nat h; have := hd.lt; omega
  obtain ⟨W, hW⟩ : ∃ W, W = w.alloc (.cells #[.int .i64 0, .int .i64 0, .slice none 0 0] 26) := ⟨_, rfl⟩
  have b0 : Bl w W := by rw [hW]; exact (Bl.refl _).alloc _
  have x0 : MBox W w.heap.size 0 0 none 0 0 := by rw [hW]; exact MBox.new w 0 0 none 0 0 _
  have hsz : W.heap.size = w.heap.size + 1 := by rw [hW]; simp
  have hne : xs ≠ [] := by
    obtain ⟨R, C, _, _, hd, e⟩ := fitB_nat h
    have := Mx.pos hd e
    intro e2
    rw [e2] at hn
    simp at hn
    omega
  have CL := hideP (vCloneZF (.slice p n cap) xs W (hr.later b0) (by omega) hne)
  have HW := hideP hW
  clear hW hr
  go_enter Try.func30, Try.ntmps30
  go_wp2_with fail
  rw [← HW.out]
  refine (fits_any _ _ _ _).mono ?_
  rintro e w1 ⟨rfl, rfl⟩
  rw [h]
  go_wp2_with fail
  refine CL.out.mono ?_
  rintro e w2 ⟨u, rfl, hR, h2⟩
  obtain ⟨p', cap', rfl, _, _⟩ := hR.rw.cut
  rw [hn] at hR ⊢
  have HR := hideP (hR.base (lo' := w.heap.size + 1) (by omega))
  obtain ⟨c0, c1, c2, f0, f1, f2, lt⟩ := x0.later h2
  clear hR CL
  go_wp2
  simp [bodyPost, results, Try.results30, go_sem, c0, c1, c2]
  exact ⟨p', cap', ⟨rfl, rfl⟩, (((HR.out.set _ (Nat.lt_succ_self _)).set _ (Nat.lt_succ_self _)).set _ (Nat.lt_succ_self _)).base (by omega), Bl.put3 (b0.trans h2) (Nat.le_refl _) _ _ _⟩
end Go.Proofs.Ytafjmogkiohjgaa

/- Contracts of tri's square, triangle, and of Whole's own memory, of fractions (layer 7). Written by genTr.py. -/
namespace Go.Proofs.Ytafjmogkiohjgaa
open Go.RowKit
set_option linter.unusedSimpArgs false
set_option linter.unusedVariables false

theorem tSquareF (r c : Int) (p : Option Addr) (n cap : Nat) (w : World) :
    Calls Try.prog 19 #[mV r c p n cap] w fun e w' => e = .returned (.bool (sqB r c n)) ∧ Bl w w' := by
  obtain ⟨W, hW⟩ : ∃ W, W = w.alloc (.cells #[.int .i64 r, .int .i64 c, .slice p n cap] 26) := ⟨_, rfl⟩
  have b0 : Bl w W := by rw [hW]; exact (Bl.refl _).alloc _
  have m0 : MBox W w.heap.size r c p n cap := by rw [hW]; exact MBox.new w _ _ _ _ _ _
  have HW := hideP hW
  clear hW
  have hd : sqB r c n = (fitB r c n && (r == c)) := by unfold sqB; congr 1
  rw [hd]
  clear hd
  cases hf : fitB r c n
  · go_enter Try.func19, Try.ntmps19
    go_wp2_with fail
    rw [← HW.out]
    refine (mRightF _ _ _ _ _ _).mono ?_
    rintro e w1 ⟨rfl, h1⟩
    rw [hf]
    obtain ⟨c0, c1, c2, f0, f1, f2, lt⟩ := m0.later h1
    go_wp2
    go_ret
    exact ⟨rfl, b0.trans h1⟩
  · go_enter Try.func19, Try.ntmps19
    go_wp2_with fail
    rw [← HW.out]
    refine (mRightF _ _ _ _ _ _).mono ?_
    rintro e w1 ⟨rfl, h1⟩
    rw [hf]
    obtain ⟨c0, c1, c2, f0, f1, f2, lt⟩ := m0.later h1
    go_wp2
    go_ret
    exact ⟨by rw [Bool.true_and]; rfl, b0.trans h1⟩
set_option maxHeartbeats 1000000 in
/-- vec.Whole's memory is its own. -/
theorem vWholeOF (p : Option Addr) (n cap : Nat) (ns : List Int) (w : World) (h : Rq 1 (fun n => [.int .i64 n]) w (.slice p n cap) ns) (hn : ns.length = n) (h0 : 0 < n) (hl : n ≤ 1000000) :
    Calls Try.prog 14 #[.slice p n cap] w fun e w' => ∃ u, e = .returned u ∧ w'.ownsRow w.heap.size 30 3 u n ((ns.map wholeF).flatMap cellsF) ∧ Bl w w' := by
  obtain ⟨i0, hi, hz0, hz1, hz2⟩ := info_parts Try.info_F
  subst hn
  rcases h with ⟨p', cap', he, rfl, hpn⟩ | ⟨b, o, cap', he, hc, hb, hx⟩
  · simp at h0
  · cases he
    have HX := hideP hx
    clear hx
    go_enter Try.func14, Try.ntmps14
    go_wp2_with (at_make; refine wpList_make_own _ rfl _ _ 24 rfl w.heap.size 30 i0 (.agg #[.int .i64 0, .int .i64 0, .bool false]) 3 Try.underlying24 hi hz0 hz1 .i64 .i64 _ ns.length rfl rfl (by simp) (by rw [hz2]; omega) (by unfold maxLen; omega) (Nat.le_refl _) ?_; intro w0 hown0 hgrow0)
    have hB0 : Bl w w0 := (Bl.refl w).grown hgrow0 (by omega) (fun k e => by cases e)
    go_loopw [3, 11] (fun v i wr => ∃ k : Nat, i = .int .i64 k ∧ k ≤ ns.length ∧ wr.ownsRow w.heap.size 30 3 v ((ns.take k).map wholeF).length (((ns.take k).map wholeF).flatMap cellsF) ∧ Bl w wr) (fun _ i _ => ns.length - (intOf i).toNat)
    case atStart => exact ⟨0, rfl, Nat.zero_le _, hown0, hB0⟩
    case round =>
      obtain ⟨k, rfl, hk, hown, hB⟩ := hrel
      by_cases hlt : k < ns.length
      · obtain ⟨x, hx⟩ : ∃ x, ns[k]? = some x := ⟨_, List.getElem?_eq_getElem hlt⟩
        have y0 : wr.cell? ⟨b, o + k, none⟩ = some (.int .i64 x) := by
          have := (bl_cell hB _ _ hb).trans (HX.out k x hx 0 _ rfl)
          simpa using this
        have hT : (ns.take (k + 1)).map wholeF = (ns.take k).map wholeF ++ [wholeF x] := by rw [List.take_add_one, hx]; simp
        have hkl : ((ns.take k).map wholeF).length = k := by simp; omega
        have HK := hideP hkl
        clear hkl
        have HT := hideP hT
        clear hT
        generalize hys : (ns.take k).map wholeF = ys at *
        clear hys
        go_wp2_with fail
        refine (vwholeF x _).mono ?_
        rintro e w2 ⟨rfl, h2⟩
        have hr : wholeF x = (newR x 1) := rfl
        generalize (newR x 1) = r at *
        rw [hr] at HT
        clear hr y0
        replace hown := own_blF hown h2
        replace hB := hB.trans h2
        have hkk := HK.out
        go_wp2_with (at_builtin; refine wpList_append_own _ rfl _ _ 24 rfl w.heap.size 30 i0 (.agg #[.int .i64 0, .int .i64 0, .bool false]) 3 24 Try.underlying24 hi hz0 hz1 hz2 rfl (by decide) _ _ _ rfl (hown.alloc _) ⟨_, 0, none⟩ 1 1 (cellsF r) rfl rfl (newF_cells _ _ _) (oneF_cells _) (by unfold maxLen; omega) (by omega) (by have := hB.size; simp; omega) ?_; intro v' w1 hown' hgrow _)
        have R := ownF_step hB hown hown' hgrow
        clear hown hown' hgrow
        go_wp2
        go_roundw
        case rel => exact ⟨k + 1, by simp, hlt, by rw [HT.out]; exact R.2, R.1⟩
        case measure => simp [intOf]; omega
      · have hk' : k = ns.length := by omega
        subst hk'
        rw [List.take_length, List.length_map] at hown
        have R := hideP hown
        clear hown
        go_wp2
        go_ret
        exact ⟨_, rfl, R.out, hB⟩
/-- mat.Whole's memory is its own. -/
theorem mWholeOF (r c : Int) (p : Option Addr) (n cap : Nat) (ns : List Int) (w : World) (hr : Rq 1 (fun n => [.int .i64 n]) w (.slice p n cap) ns) (h : fitB r c n = true) (hn : ns.length = n) :
    Calls Try.prog 5 #[.int .i64 r, .int .i64 c, .slice p n cap] w fun e w' => ∃ g cap', e = .returned (.tuple #[mV r c (some ⟨g, 0, none⟩) n cap', .bool true]) ∧ w'.ownsRow (w.heap.size + 1) 30 3 (.slice (some ⟨g, 0, none⟩) n cap') n ((ns.map wholeF).flatMap cellsF) ∧ Bl w w' := by
  have hl : n ≤ 1000000 ∧ 0 < n := by obtain ⟨R, C, _, _, hd, rfl⟩ := fitB_nat h; have := hd.lt; exact ⟨by omega, Nat.mul_pos hd.r1 hd.c1⟩
  obtain ⟨W, hW⟩ : ∃ W, W = w.alloc (.cells #[.int .i64 0, .int .i64 0, .slice none 0 0] 26) := ⟨_, rfl⟩
  have b0 : Bl w W := by rw [hW]; exact (Bl.refl _).alloc _
  have x0 : MBox W w.heap.size 0 0 none 0 0 := by rw [hW]; exact MBox.new w 0 0 none 0 0 _
  have hsz : W.heap.size = w.heap.size + 1 := by rw [hW]; simp
  have CL := hideP (vWholeOF p n cap ns W (hr.later b0) hn hl.2 hl.1)
  rw [hsz] at CL
  have HW := hideP hW
  clear hW hr
  go_enter Try.func5, Try.ntmps5
  go_wp2_with fail
  rw [← HW.out]
  refine (fits_any _ _ _ _).mono ?_
  rintro e w1 ⟨rfl, rfl⟩
  rw [h]
  go_wp2_with fail
  refine CL.out.mono ?_
  rintro e w2 ⟨u, rfl, hR, h2⟩
  obtain ⟨g, cap', hu⟩ : ∃ g cap', u = .slice (some ⟨g, 0, none⟩) n cap' := by
    rcases hR.2 with ⟨rfl, e⟩ | ⟨g, cap', cur, rfl, _⟩
    · have := hl.2; omega
    · exact ⟨g, cap', rfl⟩
  subst hu
  have HR := hideP hR
  obtain ⟨c0, c1, c2, f0, f1, f2, lt⟩ := x0.later h2
  clear hR CL
  go_wp2
  simp [bodyPost, results, Try.results5, go_sem, c0, c1, c2]
  refine ⟨g, cap', ⟨rfl, rfl⟩, ?_, Bl.put3 (b0.trans h2) (Nat.le_refl _) _ _ _⟩
  exact ownsRow_setCell_below (ownsRow_setCell_below (ownsRow_setCell_below HR.out (a := ⟨w.heap.size, 0, none⟩) (Nat.lt_succ_self _) _) (a := ⟨w.heap.size, 1, none⟩) (Nat.lt_succ_self _) _) (a := ⟨w.heap.size, 2, none⟩) (Nat.lt_succ_self _) _
/-- One number of a row that is owned, set anew. -/
theorem own_putF {w : World} {base g m cap : Nat} {xs : List Fr} (h : w.ownsRow base 30 3 (.slice (some ⟨g, 0, none⟩) m cap) m (xs.flatMap cellsF)) {q : Nat} (hq : q < xs.length) (x : Fr) :
    (((w.setCell ⟨g, q * 3, none⟩ (.int .i64 x.n)).setCell ⟨g, q * 3 + 1, none⟩ (.int .i64 x.d)).setCell ⟨g, q * 3 + 2, none⟩ (.bool x.bad)).ownsRow base 30 3 (.slice (some ⟨g, 0, none⟩) m cap) m ((xs.set q x).flatMap cellsF) := by
  have e := flat_set cellsF_len xs q x hq
  rw [← e]
  have o0 := h
  obtain ⟨o1, g1⟩ := o0.stored (q * 3) (.int .i64 x.n)
  obtain ⟨o2, g2⟩ := o1.stored (q * 3 + 1) (.int .i64 x.d)
  obtain ⟨o3, g3⟩ := o2.stored (q * 3 + 2) (.bool x.bad)
  exact o3

end Go.Proofs.Ytafjmogkiohjgaa

/- Contracts of tri's Clear, Root, of fractions (layer 7). Written by genTr.py. -/
namespace Go.Proofs.Ytafjmogkiohjgaa
open Go.RowKit
set_option linter.unusedSimpArgs false
set_option linter.unusedVariables false

theorem Try.mDivF (x : Value) (w : World) : (method 189 30 x "Div").run Try.prog w = .ok (69, x) w := by kernel_rfl
theorem Try.mRootF (x : Value) (w : World) : (method 189 30 x "Root").run Try.prog w = .ok (74, x) w := by kernel_rfl
/-- A matrix with z above its diagonal. -/
def clrF (f : Nat → Nat → Fr) (i k : Nat) : Fr := if k ≤ i then f i k else wholeF 0
end Go.Proofs.Ytafjmogkiohjgaa

/- Contracts of tri's Root, of fractions (layer 7). Written by genTr.py. -/
namespace Go.Proofs.Ytafjmogkiohjgaa
open Go.RowKit
set_option linter.unusedSimpArgs false
set_option linter.unusedVariables false

/-- What Root tells of a place, of what it is so far. -/
def rootVF (P g : Nat → Nat → Fr) (i k : Nat) : Fr := if i = k then rootR (subR (P i k) (dotF (rowM k g i) (rowM k g k))) else divR (subR (P i k) (dotF (rowM k g i) (rowM k g k))) (g k k)
end Go.Proofs.Ytafjmogkiohjgaa

/- Where a fold's triangle is fine, in fractions, its square is the square of what was folded (layer 8, HouseExact). Mathematics alone. -/
namespace Go.Proofs.Ytafjmogkiohjgaa
open Go.RowKit
set_option linter.unusedSimpArgs false
set_option linter.unusedVariables false

/-- Fractions, as a kind. -/
def kdF : Kd Fr := { z := wholeF 0, add := addR, sub := subR, mul := mulR, div := divR, root := rootR, neg := negR, dot := dotF }
theorem neg_q {a : Fr} (h : fineR (negR a) = true) : fineR a = true ∧ toQ (negR a) = -toQ a := by
  obtain ⟨_, h2, h3⟩ := sub_q (a := zR) (b := a) h
  refine ⟨h2, ?_⟩
  rw [show negR a = subR zR a from rfl, h3, toQ_z]
  grind
theorem z_q : toQ (wholeF 0) = 0 := new0_q
theorem tailH_q (m k : Nat) (f : Nat → Fr) : (tailH m k f).map toQ = (List.range (m - k)).map fun j => toQ (f (k + j)) := by unfold tailH; rw [List.map_map]; rfl
theorem dot_tail {m k : Nat} {f g : Nat → Fr} (h : fineR (dotF (tailH m k f) (tailH m k g)) = true) : (∀ c, k ≤ c → c < m → fineR (f c) = true ∧ fineR (g c) = true) ∧ toQ (dotF (tailH m k f) (tailH m k g)) = dT m k (fun c => toQ (f c)) (fun c => toQ (g c)) := by
  obtain ⟨h1, h2⟩ := dot_q h
  refine ⟨fun c h3 h4 => ?_, ?_⟩
  · have hm : mulR (f c) (g c) ∈ List.zipWith mulR (tailH m k f) (tailH m k g) := by
      refine List.mem_of_getElem? (i := c - k) ?_
      unfold tailH
      rw [List.getElem?_zipWith, List.getElem?_map, List.getElem?_map, List.getElem?_range (by omega)]
      simp [show k + (c - k) = c by omega]
    have := mul_q (h1 _ hm)
    exact ⟨this.1, this.2.1⟩
  · rw [h2, tailH_q, tailH_q, dotQ_sumH]
    rfl
/-- A row that has one number alone, at k. -/
theorem dT_one {m k : Nat} {f g : Nat → Rat} (hk : k < m) (h : ∀ c, k < c → c < m → f c = 0) : dT m k f g = f k * g k := by
  unfold dT
  obtain ⟨d, hd⟩ : ∃ d, m - k = 1 + d := ⟨m - k - 1, by omega⟩
  rw [hd, sumH_split]
  rw [sumH_zero d (fun j hj => by rw [h (k + (1 + j)) (by omega) (by omega), Rat.zero_mul])]
  show (0 : Rat) + f (k + 0) * g (k + 0) + 0 = _
  rw [Nat.add_zero, Rat.zero_add, Rat.add_zero]
theorem dT_zero {m k : Nat} {f g : Nat → Rat} (h : ∀ c, k ≤ c → c < m → f c = 0) : dT m k f g = 0 :=
  sumH_zero _ fun j hj => by rw [h (k + j) (by omega) (by omega), Rat.zero_mul]
theorem dT_congr {m k : Nat} {f g f' g' : Nat → Rat} (h : ∀ c, k ≤ c → c < m → f c = f' c) (h2 : ∀ c, k ≤ c → c < m → g c = g' c) : dT m k f g = dT m k f' g' :=
  sumH_congr _ fun j hj => by rw [h (k + j) (by omega) (by omega), h2 (k + j) (by omega) (by omega)]

theorem fold_all {n m : Nat} (hnm : n ≤ m) (σ τ : Nat → Bool) (a : Nat → Nat → Fr) (hT : ∀ i j, i < n → j ≤ i → fineR (foldH kdF n m σ τ a i j) = true) :
    ∀ i j, i < n → j < n → sumH n (fun c => toQ (foldH kdF n m σ τ a i c) * toQ (foldH kdF n m σ τ a j c)) = sumH m fun c => toQ (a i c) * toQ (a j c) := by
  obtain ⟨A, hA⟩ : ∃ A, A = foldTo kdF m σ a := ⟨_, rfl⟩
  have step : ∀ k i j, A (k + 1) i j = foldStep kdF m k (σ k) (A k) i j := fun k i j => by rw [hA]; rfl
  -- what stands below the diagonal at the end
  have an : ∀ i c, i < n → c ≤ i → fineR (A n i c) = true := fun i c hi hc => by
    have h := hT i c hi hc
    unfold foldH signsH at h
    rw [if_neg (by omega), ← hA] at h
    by_cases hl : c ≤ i ∧ τ c = true
    · rw [if_pos hl] at h
      exact (neg_q h).1
    · rw [if_neg hl] at h
      exact h
  have stay : ∀ i c k, i < k ∨ (c < k ∧ c < i) → ∀ d, A (k + d) i c = A k i c := fun i c k h d => by rw [hA]; exact foldTo_stays kdF m σ a h d
  have zero : ∀ i c k, i < k → i < c → A k i c = wholeF 0 := fun i c k h h2 => by rw [hA]; exact foldTo_zero kdF m σ a h h2
  have pk : ∀ k, A (k + 1) k k = pH kdF m k (σ k) (A k) := fun k => by rw [step]; unfold foldStep; rw [if_pos rfl, if_pos rfl]
  have hp : ∀ k, k < n → fineR (pH kdF m k (σ k) (A k)) = true := fun k hk => by
    obtain ⟨d, rfl⟩ := Nat.exists_eq_add_of_le (show k + 1 ≤ n from hk)
    have := an k k (by omega) (Nat.le_refl _)
    rw [stay k k (k + 1) (.inl (by omega)) d, pk] at this
    exact this
  -- the root
  have hroot : ∀ k, k < n → (∀ c, k ≤ c → c < m → fineR (A k k c) = true) ∧ toQ (pH kdF m k (σ k) (A k)) * toQ (pH kdF m k (σ k) (A k)) = dT m k (fun c => toQ (A k k c)) (fun c => toQ (A k k c)) := fun k hk => by
    have h := hp k hk
    obtain ⟨s, hs⟩ : ∃ s, s = rootR (dotF (tailH m k (A k k)) (tailH m k (A k k))) := ⟨_, rfl⟩
    have hps : fineR s = true ∧ toQ (pH kdF m k (σ k) (A k)) * toQ (pH kdF m k (σ k) (A k)) = toQ s * toQ s := by
      unfold pH at h ⊢
      by_cases hl : σ k = true
      · rw [if_pos hl] at h ⊢
        rw [hs]
        exact ⟨h, rfl⟩
      · rw [if_neg hl] at h ⊢
        obtain ⟨h1, h2⟩ := neg_q h
        rw [hs]
        refine ⟨h1, ?_⟩
        have h3 : toQ (kdF.neg (kdF.root (kdF.dot (tailH m k (A k k)) (tailH m k (A k k))))) = -toQ (rootR (dotF (tailH m k (A k k)) (tailH m k (A k k)))) := h2
        rw [h3]
        grind
    have hr := root_q (a := dotF (tailH m k (A k k)) (tailH m k (A k k))) (by rw [← hs]; exact hps.1)
    obtain ⟨h1, h2⟩ := dot_tail hr.1
    refine ⟨fun c hc hm => (h1 c hc hm).1, ?_⟩
    rw [hps.2, hs, hr.2.1, h2]
  -- rows that are still to come
  have rowi : ∀ i, i < n → ∀ c, c < m → fineR (A i i c) = true := fun i hi c hc => by
    by_cases h : c < i
    · obtain ⟨d, hd⟩ := Nat.exists_eq_add_of_le (show i ≤ n by omega)
      have := an i c hi (by omega)
      rw [hd, stay i c i (.inr ⟨h, h⟩) d] at this
      exact this
    · exact (hroot i hi).1 c (by omega) hc
  have down : ∀ k i, k < i → (∀ c, c < m → fineR (A (k + 1) i c) = true) → (∀ c, c < m → fineR (A k i c) = true) ∧ (k < m → fineR (tH kdF m k (σ k) (A k) i) = true ∧ ∀ c, k ≤ c → c < m → fineR (vH kdF m k (σ k) (A k) c) = true ∧ toQ (A (k + 1) i c) = toQ (A k i c) - toQ (vH kdF m k (σ k) (A k) c) * toQ (tH kdF m k (σ k) (A k) i)) := fun k i hk h => by
    have e : ∀ c, k ≤ c → A (k + 1) i c = subR (A k i c) (mulR (vH kdF m k (σ k) (A k) c) (tH kdF m k (σ k) (A k) i)) := fun c hc => by
      rw [step]; unfold foldStep; rw [if_neg (by omega), if_pos ⟨hk, hc⟩]; rfl
    have q : ∀ c, k ≤ c → c < m → fineR (A k i c) = true ∧ fineR (vH kdF m k (σ k) (A k) c) = true ∧ fineR (tH kdF m k (σ k) (A k) i) = true ∧ toQ (A (k + 1) i c) = toQ (A k i c) - toQ (vH kdF m k (σ k) (A k) c) * toQ (tH kdF m k (σ k) (A k) i) := fun c hc hm => by
      have h1 := h c hm
      rw [e c hc] at h1 ⊢
      obtain ⟨g1, g2, g3⟩ := sub_q h1
      obtain ⟨g4, g5, g6⟩ := mul_q g2
      exact ⟨g1, g4, g5, by rw [g3, g6]⟩
    refine ⟨fun c hc => ?_, fun hm => ⟨(q k (Nat.le_refl _) hm).2.2.1, fun c h1 h2 => ⟨(q c h1 h2).2.1, (q c h1 h2).2.2.2⟩⟩⟩
    by_cases h2 : k ≤ c
    · exact (q c h2 hc).1
    · have := h c hc
      rw [step] at this
      unfold foldStep at this
      rwa [if_neg (by omega), if_neg (by omega)] at this
  have rows : ∀ d k i, k + d = i → i < n → ∀ c, c < m → fineR (A k i c) = true := by
    intro d
    induction d with
    | zero =>
      intro k i h hi
      obtain rfl : k = i := by omega
      exact rowi k hi
    | succ d ih => intro k i h hi; exact (down k i (by omega) (ih (k + 1) i (by omega) hi)).1
  -- one step's rational numbers
  have vk : ∀ k i, k < i → i < n → toQ (vH kdF m k (σ k) (A k) k) = toQ (A k k k) - toQ (pH kdF m k (σ k) (A k)) ∧ (∀ c, k < c → vH kdF m k (σ k) (A k) c = A k k c) ∧
      toQ (tH kdF m k (σ k) (A k) i) * dT m k (fun c => toQ (vH kdF m k (σ k) (A k) c)) (fun c => toQ (vH kdF m k (σ k) (A k) c)) = dT m k (fun c => toQ (A k i c)) (fun c => toQ (vH kdF m k (σ k) (A k) c)) + dT m k (fun c => toQ (A k i c)) (fun c => toQ (vH kdF m k (σ k) (A k) c)) ∧
      dT m k (fun c => toQ (vH kdF m k (σ k) (A k) c)) (fun c => toQ (vH kdF m k (σ k) (A k) c)) ≠ 0 := fun k i hk hi => by
    obtain ⟨_, hd⟩ := down k i hk (rows (i - (k + 1)) (k + 1) i (by omega) hi)
    obtain ⟨ht, hv⟩ := hd (by omega)
    have h1 := (hv k (Nat.le_refl _) (by omega)).1
    refine ⟨?_, fun c hc => by unfold vH; rw [if_neg (by omega)], ?_⟩
    · unfold vH at h1 ⊢
      rw [if_pos rfl] at h1 ⊢
      exact (sub_q h1).2.2
    · obtain ⟨g1, g2, g3, g4⟩ := div_q (a := addR (dotF (tailH m k (A k i)) (tailH m k (vH kdF m k (σ k) (A k)))) (dotF (tailH m k (A k i)) (tailH m k (vH kdF m k (σ k) (A k))))) (b := dotF (tailH m k (vH kdF m k (σ k) (A k))) (tailH m k (vH kdF m k (σ k) (A k)))) ht
      have g5 := div_mul_q (a := addR (dotF (tailH m k (A k i)) (tailH m k (vH kdF m k (σ k) (A k)))) (dotF (tailH m k (A k i)) (tailH m k (vH kdF m k (σ k) (A k))))) (b := dotF (tailH m k (vH kdF m k (σ k) (A k))) (tailH m k (vH kdF m k (σ k) (A k)))) ht
      obtain ⟨g6, _, g7⟩ := add_q g1
      rw [(dot_tail g2).2] at g3 g5
      rw [g7, (dot_tail g6).2] at g5
      exact ⟨g5, g3⟩
  -- both rows behind one step
  have keep : ∀ k i j, k < n → i < n → j < n → i ≤ j → dT m k (fun c => toQ (A (k + 1) i c)) (fun c => toQ (A (k + 1) j c)) = dT m k (fun c => toQ (A k i c)) (fun c => toQ (A k j c)) := fun k i j hk hi hj hij => by
    have new : ∀ j, k < j → j < n → ∀ c, k ≤ c → c < m → toQ (A (k + 1) j c) = toQ (A k j c) - toQ (vH kdF m k (σ k) (A k) c) * toQ (tH kdF m k (σ k) (A k) j) := fun j h hj c hc hm => by
      obtain ⟨_, hd⟩ := down k j h (rows (j - (k + 1)) (k + 1) j (by omega) hj)
      exact ((hd (by omega)).2 c hc hm).2
    by_cases h1 : i < k
    · have e : A (k + 1) i = A k i := by funext c; exact stay i c k (.inl h1) 1
      rw [e, dT_zero (fun c h2 _ => by rw [zero i c k h1 (by omega)]; exact z_q), dT_zero (fun c h2 _ => by rw [zero i c k h1 (by omega)]; exact z_q)]
    · by_cases h2 : i = k
      · subst h2
        have hz : ∀ c, i < c → c < m → toQ (A (i + 1) i c) = 0 := fun c h _ => by rw [zero i c (i + 1) (by omega) h]; exact z_q
        rw [dT_one (by omega) hz, pk]
        by_cases h3 : j = i
        · subst h3
          rw [pk]
          exact (hroot j hj).2
        · have hji : i < j := by omega
          obtain ⟨v1, v2, v3, _⟩ := vk i j hji hj
          rw [new j hji hj i (Nat.le_refl _) (by omega)]
          have hr := (hroot i hk).2
          obtain ⟨p, hpp⟩ : ∃ p, p = toQ (pH kdF m i (σ i) (A i)) := ⟨_, rfl⟩
          obtain ⟨t, htt⟩ : ∃ t, t = toQ (tH kdF m i (σ i) (A i) j) := ⟨_, rfl⟩
          rw [← hpp] at hr v1 ⊢
          rw [← htt] at v3 ⊢
          -- v is x, less p at i
          have ev : ∀ g : Nat → Rat, dT m i (fun c => toQ (vH kdF m i (σ i) (A i) c)) g = dT m i (fun c => toQ (A i i c)) g - p * g i := fun g => by
            rw [dT_congr (f' := fun c => toQ (A i i c) - (if c = i then (1 : Rat) else 0) * p) (g' := g) (fun c h4 h5 => by
              by_cases hc : c = i
              · subst hc; rw [v1, if_pos rfl]; grind
              · rw [v2 c (by omega), if_neg hc]; grind) (fun _ _ _ => rfl)]
            rw [dT_subl, dT_one (f := fun c => if c = i then (1 : Rat) else 0) (by omega) (fun c h4 _ => if_neg (by omega)), if_pos rfl]
            grind
          have e1 := ev (fun c => toQ (A i j c))
          have e2 := ev (fun c => toQ (vH kdF m i (σ i) (A i) c))
          have e3 := ev (fun c => toQ (A i i c))
          rw [dT_comm m i (fun c => toQ (A i i c)) (fun c => toQ (vH kdF m i (σ i) (A i) c))] at e2
          rw [dT_comm m i (fun c => toQ (A i j c)) (fun c => toQ (vH kdF m i (σ i) (A i) c))] at v3
          rw [v1] at e2 ⊢
          rw [e3] at e2
          rw [e2] at v3
          rw [← hr] at v3
          rw [e1] at v3
          grind
      · obtain ⟨_, _, v3, v4⟩ := vk k i (by omega) hi
        obtain ⟨_, _, v5, _⟩ := vk k j (by omega) hj
        rw [dT_congr (fun c h3 h4 => new i (by omega) hi c h3 h4) (fun c h3 h4 => new j (by omega) hj c h3 h4)]
        exact dT_fold v4 v3 v5
  have gram : ∀ k, k ≤ n → ∀ i j, i < n → j < n → i ≤ j → sumH m (fun c => toQ (A k i c) * toQ (A k j c)) = sumH m fun c => toQ (a i c) * toQ (a j c) := by
    intro k
    induction k with
    | zero => intro _ i j _ _ _; rw [hA]; rfl
    | succ k ih =>
      intro hk i j hi hj hij
      rw [← ih (by omega) i j hi hj hij]
      have hm : m = k + (m - k) := by omega
      have old : ∀ i c, c < k → A (k + 1) i c = A k i c := fun i c hc => by
        rw [step]; unfold foldStep
        by_cases h : i = k
        · rw [if_pos h, if_neg (by omega), if_neg (by omega)]
        · rw [if_neg h, if_neg (by omega)]
      have hs : ∀ f : Nat → Rat, sumH m f = sumH k f + sumH (m - k) fun j => f (k + j) := fun f => by
        have := sumH_split f k (m - k)
        rw [← hm] at this
        exact this
      rw [hs, hs, sumH_congr k (g := fun c => toQ (A k i c) * toQ (A k j c)) fun c hc => by rw [old i c hc, old j c hc]]
      congr 1
      exact keep k i j (by omega) hi hj hij
  -- the end
  have fin : ∀ i j, i < n → j < n → i ≤ j → sumH n (fun c => toQ (foldH kdF n m σ τ a i c) * toQ (foldH kdF n m σ τ a j c)) = sumH m fun c => toQ (a i c) * toQ (a j c) := fun i j hi hj hij => by
    rw [← gram n (Nat.le_refl _) i j hi hj hij]
    obtain ⟨d, hd⟩ := Nat.exists_eq_add_of_le hnm
    rw [hd, sumH_split, sumH_zero d (fun c hc => by rw [zero i (n + c) n hi (by omega), z_q, Rat.zero_mul]), Rat.add_zero]
    refine sumH_congr n fun c hc => ?_
    by_cases h : i < c
    · rw [zero i c n hi h, z_q, Rat.zero_mul]
      unfold foldH
      rw [if_pos h]
      show toQ (wholeF 0) * _ = 0
      rw [z_q, Rat.zero_mul]
    · have one : ∀ i, i < n → c ≤ i → toQ (foldH kdF n m σ τ a i c) = (if τ c = true then -1 else 1) * toQ (A n i c) := fun i hi h => by
        have hf := hT i c hi h
        unfold foldH signsH at hf ⊢
        rw [← hd, ← hA] at *
        rw [if_neg (by omega)] at hf ⊢
        by_cases hl : τ c = true
        · rw [if_pos ⟨h, hl⟩] at hf ⊢
          rw [if_pos hl]
          have := (neg_q hf).2
          show toQ (negR (A n i c)) = _
          rw [this]
          grind
        · rw [if_neg (fun hh => hl hh.2)] at hf ⊢
          rw [if_neg hl]
          grind
      rw [← hd] at *
      rw [one i hi (by omega), one j hj (by omega)]
      by_cases hl : τ c = true
      · rw [if_pos hl]; grind
      · rw [if_neg hl]; grind
  intro i j hi hj
  by_cases h : i ≤ j
  · exact fin i j hi hj h
  · rw [sumH_congr n (g := fun c => toQ (foldH kdF n m σ τ a j c) * toQ (foldH kdF n m σ τ a i c)) fun c _ => Rat.mul_comm _ _, fin j i hj hi (by omega)]
    exact sumH_congr m fun c _ => Rat.mul_comm _ _
end Go.Proofs.Ytafjmogkiohjgaa
