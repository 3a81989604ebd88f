/- Contracts of env's Add, Sub, Mul, Div, Root (layer 3). -/
import Derived.Test.YtljmggemdkfbiaaGreatEn2
namespace Go.Proofs.YtljmggemdkfbiaaGreat
open Go.RowKit
set_option linter.unusedSimpArgs false
set_option linter.unusedVariables false

theorem addF_any (x y m : Int) (w : World) :
    Calls Tryz.prog 209 #[prV x y, .int .i64 m] w fun e w' => e = .returned (.tuple #[.int .i64 (nA x y m), .bool (bA x y m)]) ∧ Bl w w' := by
  go_enter Tryz.func209, Tryz.ntmps209
  go_wp2_with (go_at_call 210; refine (fadd_any _ _ _).mono ?_; rintro e w1 ⟨rfl, h1⟩)
  go_ret2
  exact ⟨rfl, ((Bl.refl _).alloc _).trans h1⟩
theorem subF_any (x y m : Int) (w : World) :
    Calls Tryz.prog 218 #[prV x y, .int .i64 m] w fun e w' => e = .returned (.tuple #[.int .i64 (nS x y m), .bool (bS x y m)]) ∧ Bl w w' := by
  go_enter Tryz.func218, Tryz.ntmps218
  go_wp2_with (go_at_call 219; refine (fsub_any _ _ _).mono ?_; rintro e w1 ⟨rfl, h1⟩)
  go_ret2
  exact ⟨rfl, ((Bl.refl _).alloc _).trans h1⟩
theorem mulF_any (x y m : Int) (w : World) :
    Calls Tryz.prog 214 #[prV x y, .int .i64 m] w fun e w' => e = .returned (.tuple #[.int .i64 (fmN x y m), .bool (fmB x y m)]) ∧ Bl w w' := by
  go_enter Tryz.func214, Tryz.ntmps214
  go_wp2_with (go_at_call 215; refine (fmul_any _ _ _ _).mono ?_; rintro e w1 ⟨rfl, h1⟩)
  go_ret2
  exact ⟨rfl, ((Bl.refl _).alloc _).trans h1⟩
theorem divF_any (x y m : Int) (w : World) :
    Calls Tryz.prog 212 #[prV x y, .int .i64 m] w fun e w' => e = .returned (.tuple #[.int .i64 (fdN x y m), .bool (fdB x y m)]) ∧ Bl w w' := by
  go_enter Tryz.func212, Tryz.ntmps212
  go_wp2_with (go_at_call 213; refine (fdiv_any _ _ _ _).mono ?_; rintro e w1 ⟨rfl, h1⟩)
  go_ret2
  exact ⟨rfl, ((Bl.refl _).alloc _).trans h1⟩
theorem rootF_any (x y m : Int) (w : World) :
    Calls Tryz.prog 216 #[prV x y, .int .i64 m] w fun e w' => e = .returned (.tuple #[.int .i64 (nQ x y m), .bool (bQ x y m)]) ∧ Bl w w' := by
  go_enter Tryz.func216, Tryz.ntmps216
  go_wp2_with (go_at_call 217; refine (froot_any _ _ _).mono ?_; rintro e w1 ⟨rfl, h1⟩)
  go_ret2
  exact ⟨rfl, ((Bl.refl _).alloc _).trans h1⟩

theorem Prs.two (w : World) (blk : Nat) (hb : blk = w.heap.size) (x0 y0 x1 y1 : Int) (t : TypeId) : Prs (w.alloc (.cells #[.int .i64 x0, .int .i64 y0, .int .i64 x1, .int .i64 y1] t)) blk [(x0, y0), (x1, y1)] := by
  subst hb
  refine ⟨by simp, fun k hk => ?_⟩
  rcases (by simp at hk; omega : k = 0 ∨ k = 1) with rfl | rfl <;> simp [go_sem]
theorem Prs.four (w : World) (blk : Nat) (hb : blk = w.heap.size) (x0 y0 x1 y1 x2 y2 x3 y3 : Int) (t : TypeId) : Prs (w.alloc (.cells #[.int .i64 x0, .int .i64 y0, .int .i64 x1, .int .i64 y1, .int .i64 x2, .int .i64 y2, .int .i64 x3, .int .i64 y3] t)) blk [(x0, y0), (x1, y1), (x2, y2), (x3, y3)] := by
  subst hb
  refine ⟨by simp, fun k hk => ?_⟩
  rcases (by simp at hk; omega : k = 0 ∨ k = 1 ∨ k = 2 ∨ k = 3) with rfl | rfl | rfl | rfl <;> simp [go_sem]

theorem addT (a b : En) (blk : Nat) (w : World) (h : Prs w blk (prs2 a b)) :
    Calls Tryz.prog 211 #[enV a, enV b, .func (.func 209) #[] #[], .slice (some ⟨blk, 0, none⟩) 2 2] w fun e w' => e = .returned (enV (addE a b)) ∧ Bl w w' :=
  toldE_any _ nA bA a b (prs2 a b) blk w (enters Tryz.func209 (by kernel_rfl) rfl) addF_any (by simp [prs2]) h
theorem subT (a b : En) (blk : Nat) (w : World) (h : Prs w blk (prsX a b)) :
    Calls Tryz.prog 211 #[enV a, enV b, .func (.func 218) #[] #[], .slice (some ⟨blk, 0, none⟩) 2 2] w fun e w' => e = .returned (enV (subE a b)) ∧ Bl w w' :=
  toldE_any _ nS bS a b (prsX a b) blk w (enters Tryz.func218 (by kernel_rfl) rfl) subF_any (by simp [prsX]) h
theorem mulT (a b : En) (blk : Nat) (w : World) (h : Prs w blk (prs4 a b)) :
    Calls Tryz.prog 211 #[enV a, enV b, .func (.func 214) #[] #[], .slice (some ⟨blk, 0, none⟩) 4 4] w fun e w' => e = .returned (enV (mulE a b)) ∧ Bl w w' :=
  toldE_any _ fmN fmB a b (prs4 a b) blk w (enters Tryz.func214 (by kernel_rfl) rfl) mulF_any (by simp [prs4]) h
theorem divT (a b : En) (blk : Nat) (w : World) (h : Prs w blk (prs4 a b)) :
    Calls Tryz.prog 211 #[enV a, enV b, .func (.func 212) #[] #[], .slice (some ⟨blk, 0, none⟩) 4 4] w fun e w' => e = .returned (enV (toldE fdN fdB a b (prs4 a b))) ∧ Bl w w' :=
  toldE_any _ fdN fdB a b (prs4 a b) blk w (enters Tryz.func212 (by kernel_rfl) rfl) divF_any (by simp [prs4]) h
theorem rootT (a : En) (blk : Nat) (w : World) (h : Prs w blk (prs2 a a)) :
    Calls Tryz.prog 211 #[enV a, enV a, .func (.func 216) #[] #[], .slice (some ⟨blk, 0, none⟩) 2 2] w fun e w' => e = .returned (enV (rootE a)) ∧ Bl w w' :=
  toldE_any _ nQ bQ a a (prs2 a a) blk w (enters Tryz.func216 (by kernel_rfl) rfl) rootF_any (by simp [prs2]) h

/-- The world behind the boxes of two numbers, and of a third one that is yet to be told. -/
structure Three (w W : World) (a b : En) : Prop where
  eq : W = ((w.alloc (.cells #[.int .i64 a.v, .int .i64 a.l, .int .i64 a.h, .bool a.bad] 52)).alloc (.cells #[.int .i64 b.v, .int .i64 b.l, .int .i64 b.h, .bool b.bad] 52)).alloc (.cells #[.int .i64 0, .int .i64 0, .int .i64 0, .bool false] 52)
  bl : Bl w W
  ba : Box W w.heap.size a
  bb : Box W (w.heap.size + 1) b
  bz : Box W (w.heap.size + 1 + 1) zeroE
  size : W.heap.size = w.heap.size + 1 + 1 + 1
theorem three_ex (w : World) (a b : En) : ∃ W, Three w W a b := by
  refine ⟨_, rfl, (((Bl.refl _).alloc _).alloc _).alloc _, (Box.new w a 52).later (((Bl.refl _).alloc _).alloc _), ?_, ?_, by simp⟩
  · have := (Box.new (w.alloc (.cells #[.int .i64 a.v, .int .i64 a.l, .int .i64 a.h, .bool a.bad] 52)) b 52).later ((Bl.refl _).alloc (.cells #[.int .i64 0, .int .i64 0, .int .i64 0, .bool false] 52))
    simpa using this
  · have := Box.new ((w.alloc (.cells #[.int .i64 a.v, .int .i64 a.l, .int .i64 a.h, .bool a.bad] 52)).alloc (.cells #[.int .i64 b.v, .int .i64 b.l, .int .i64 b.h, .bool b.bad] 52)) zeroE 52
    simpa [zeroE] using this

theorem eadd_any (a b : En) (w : World) :
    Calls Tryz.prog 202 #[enV a, enV b] w fun e w' => e = .returned (enV (addE a b)) ∧ Bl w w' := by
  obtain ⟨W, X⟩ := three_ex w a b
  have HX := hideP X
  clear X
  have T := hideP (addT a b)
  generalize addE a b = r at *
  go_enter Tryz.func202, Tryz.ntmps202
  go_wp2_with fail
  rw [← HX.out.eq]
  refine (T.out _ _ (Prs.two _ _ HX.out.size.symm _ _ _ _ _)).mono ?_
  rintro e w1 ⟨rfl, h1⟩
  obtain ⟨c0, c1, c2, c3, f0, f1, f2, f3, lt⟩ := HX.out.bz.later (((Bl.refl _).alloc _).trans h1)
  go_wp2
  simp [bodyPost, results, Tryz.results202, go_sem, c0, c1, c2, c3]
  exact Bl.set4 ((HX.out.bl.alloc _).trans h1) (by omega) _ _ _ _
theorem esub_any (a b : En) (w : World) :
    Calls Tryz.prog 208 #[enV a, enV b] w fun e w' => e = .returned (enV (subE a b)) ∧ Bl w w' := by
  obtain ⟨W, X⟩ := three_ex w a b
  have HX := hideP X
  clear X
  have T := hideP (subT a b)
  generalize subE a b = r at *
  go_enter Tryz.func208, Tryz.ntmps208
  go_wp2_with fail
  rw [← HX.out.eq]
  refine (T.out _ _ (Prs.two _ _ HX.out.size.symm _ _ _ _ _)).mono ?_
  rintro e w1 ⟨rfl, h1⟩
  obtain ⟨c0, c1, c2, c3, f0, f1, f2, f3, lt⟩ := HX.out.bz.later (((Bl.refl _).alloc _).trans h1)
  go_wp2
  simp [bodyPost, results, Tryz.results208, go_sem, c0, c1, c2, c3]
  exact Bl.set4 ((HX.out.bl.alloc _).trans h1) (by omega) _ _ _ _
theorem emul_any (a b : En) (w : World) :
    Calls Tryz.prog 204 #[enV a, enV b] w fun e w' => e = .returned (enV (mulE a b)) ∧ Bl w w' := by
  obtain ⟨W, X⟩ := three_ex w a b
  have HX := hideP X
  clear X
  have T := hideP (mulT a b)
  generalize mulE a b = r at *
  go_enter Tryz.func204, Tryz.ntmps204
  go_wp2_with fail
  rw [← HX.out.eq]
  refine (T.out _ _ (Prs.four _ _ HX.out.size.symm _ _ _ _ _ _ _ _ _)).mono ?_
  rintro e w1 ⟨rfl, h1⟩
  obtain ⟨c0, c1, c2, c3, f0, f1, f2, f3, lt⟩ := HX.out.bz.later (((Bl.refl _).alloc _).trans h1)
  go_wp2
  simp [bodyPost, results, Tryz.results204, go_sem, c0, c1, c2, c3]
  exact Bl.set4 ((HX.out.bl.alloc _).trans h1) (by omega) _ _ _ _

theorem ediv_any (a b : En) (w : World) :
    Calls Tryz.prog 203 #[enV a, enV b] w fun e w' => e = .returned (enV (divE a b)) ∧ Bl w w' := by
  obtain ⟨W, X⟩ := three_ex w a b
  have HX := hideP X
  clear X
  have T := hideP (divT a b)
  unfold divE
  generalize toldE fdN fdB a b (prs4 a b) = r at *
  have hcase : (decide (b.l ≤ 0) = false) ∨ (decide (b.l ≤ 0) = true ∧ decide (0 ≤ b.h) = false) ∨ (decide (b.l ≤ 0) = true ∧ decide (0 ≤ b.h) = true) := by
    cases decide (b.l ≤ 0) <;> cases decide (0 ≤ b.h) <;> simp
  rcases hcase with k1 | ⟨k1, k2⟩ | ⟨k1, k2⟩
  · have hz : zeroB b = false := by unfold zeroB; rw [k1]; rfl
    rw [hz]
    clear hz
    have k := of_decide_eq_false k1
    go_enter Tryz.func203, Tryz.ntmps203
    go_wp2_with fail
    rw [← HX.out.eq]
    refine (T.out _ _ (Prs.four _ _ HX.out.size.symm _ _ _ _ _ _ _ _ _)).mono ?_
    rintro e w1 ⟨rfl, h1⟩
    obtain ⟨c0, c1, c2, c3, f0, f1, f2, f3, lt⟩ := HX.out.bz.later (((Bl.refl _).alloc _).trans h1)
    go_wp2
    simp [bodyPost, results, Tryz.results203, go_sem, c0, c1, c2, c3]
    exact Bl.set4 ((HX.out.bl.alloc _).trans h1) (by omega) _ _ _ _
  · have hz : zeroB b = false := by unfold zeroB; rw [k1, k2]; rfl
    rw [hz]
    clear hz
    have k := of_decide_eq_true k1
    have k' := of_decide_eq_false k2
    go_enter Tryz.func203, Tryz.ntmps203
    go_wp2_with fail
    rw [← HX.out.eq]
    refine (T.out _ _ (Prs.four _ _ HX.out.size.symm _ _ _ _ _ _ _ _ _)).mono ?_
    rintro e w1 ⟨rfl, h1⟩
    obtain ⟨c0, c1, c2, c3, f0, f1, f2, f3, lt⟩ := HX.out.bz.later (((Bl.refl _).alloc _).trans h1)
    go_wp2
    simp [bodyPost, results, Tryz.results203, go_sem, c0, c1, c2, c3]
    exact Bl.set4 ((HX.out.bl.alloc _).trans h1) (by omega) _ _ _ _
  · have hz : zeroB b = true := by unfold zeroB; rw [k1, k2]; rfl
    rw [hz]
    clear hz
    have k := of_decide_eq_true k1
    have k' := of_decide_eq_true k2
    go_enter Tryz.func203, Tryz.ntmps203
    go_wp2_with fail
    rw [← HX.out.eq]
    refine (wrong_any _).mono ?_
    rintro e w1 ⟨rfl, h1⟩
    obtain ⟨c0, c1, c2, c3, f0, f1, f2, f3, lt⟩ := HX.out.bz.later h1
    go_wp2
    simp [bodyPost, results, Tryz.results203, go_sem, c0, c1, c2, c3]
    exact Bl.set4 (HX.out.bl.trans h1) (by omega) _ _ _ _

/-- The world behind the box of one number, and of another one that is yet to be told. -/
structure Two (w W : World) (a : En) : Prop where
  eq : W = (w.alloc (.cells #[.int .i64 a.v, .int .i64 a.l, .int .i64 a.h, .bool a.bad] 52)).alloc (.cells #[.int .i64 0, .int .i64 0, .int .i64 0, .bool false] 52)
  bl : Bl w W
  ba : Box W w.heap.size a
  bz : Box W (w.heap.size + 1) zeroE
  size : W.heap.size = w.heap.size + 1 + 1
theorem two_ex (w : World) (a : En) : ∃ W, Two w W a := by
  refine ⟨_, rfl, ((Bl.refl _).alloc _).alloc _, (Box.new w a 52).later ((Bl.refl _).alloc _), ?_, by simp⟩
  have := Box.new (w.alloc (.cells #[.int .i64 a.v, .int .i64 a.l, .int .i64 a.h, .bool a.bad] 52)) zeroE 52
  simpa [zeroE] using this
theorem eroot_any (a : En) (w : World) :
    Calls Tryz.prog 206 #[enV a] w fun e w' => e = .returned (enV (rootE a)) ∧ Bl w w' := by
  obtain ⟨W, X⟩ := two_ex w a
  have HX := hideP X
  clear X
  have T := hideP (rootT a)
  generalize rootE a = r at *
  go_enter Tryz.func206, Tryz.ntmps206
  go_wp2_with fail
  rw [← HX.out.eq]
  refine (T.out _ _ (Prs.two _ _ HX.out.size.symm _ _ _ _ _)).mono ?_
  rintro e w1 ⟨rfl, h1⟩
  obtain ⟨c0, c1, c2, c3, f0, f1, f2, f3, lt⟩ := HX.out.bz.later (((Bl.refl _).alloc _).trans h1)
  go_wp2
  simp [bodyPost, results, Tryz.results206, go_sem, c0, c1, c2, c3]
  exact Bl.set4 ((HX.out.bl.alloc _).trans h1) (by omega) _ _ _ _

end Go.Proofs.YtljmggemdkfbiaaGreat
