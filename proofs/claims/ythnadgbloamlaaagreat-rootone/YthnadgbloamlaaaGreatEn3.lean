/- Contracts of env's Add, Sub, Mul, Div, Root (layer 3). -/
import Derived.Test.YthnadgbloamlaaaGreatEn2
namespace Go.Proofs.YthnadgbloamlaaaGreat
open Go.RowKit
set_option linter.unusedSimpArgs false
set_option linter.unusedVariables false

theorem addF_any (x y m : Int) (w : World) :
    Calls Tryz.prog 250 #[prV x y, .int .i64 m] w fun e w' => e = .returned (.tuple #[.int .i64 (nA x y m), .bool (bA x y m)]) ∧ Bl w w' := by
  go_enter Tryz.func250, Tryz.ntmps250
  go_wp2_with (go_at_call 251; refine (fadd_any _ _ _).mono ?_; rintro e w1 ⟨rfl, h1⟩)
  go_ret2
  exact ⟨rfl, ((Bl.refl _).alloc _).trans h1⟩
theorem subF_any (x y m : Int) (w : World) :
    Calls Tryz.prog 259 #[prV x y, .int .i64 m] w fun e w' => e = .returned (.tuple #[.int .i64 (nS x y m), .bool (bS x y m)]) ∧ Bl w w' := by
  go_enter Tryz.func259, Tryz.ntmps259
  go_wp2_with (go_at_call 260; refine (fsub_any _ _ _).mono ?_; rintro e w1 ⟨rfl, h1⟩)
  go_ret2
  exact ⟨rfl, ((Bl.refl _).alloc _).trans h1⟩
theorem mulF_any (x y m : Int) (w : World) :
    Calls Tryz.prog 255 #[prV x y, .int .i64 m] w fun e w' => e = .returned (.tuple #[.int .i64 (fmN x y m), .bool (fmB x y m)]) ∧ Bl w w' := by
  go_enter Tryz.func255, Tryz.ntmps255
  go_wp2_with (go_at_call 256; refine (fmul_any _ _ _ _).mono ?_; rintro e w1 ⟨rfl, h1⟩)
  go_ret2
  exact ⟨rfl, ((Bl.refl _).alloc _).trans h1⟩
theorem divF_any (x y m : Int) (w : World) :
    Calls Tryz.prog 253 #[prV x y, .int .i64 m] w fun e w' => e = .returned (.tuple #[.int .i64 (fdN x y m), .bool (fdB x y m)]) ∧ Bl w w' := by
  go_enter Tryz.func253, Tryz.ntmps253
  go_wp2_with (go_at_call 254; refine (fdiv_any _ _ _ _).mono ?_; rintro e w1 ⟨rfl, h1⟩)
  go_ret2
  exact ⟨rfl, ((Bl.refl _).alloc _).trans h1⟩
theorem rootF_any (x y m : Int) (w : World) :
    Calls Tryz.prog 257 #[prV x y, .int .i64 m] w fun e w' => e = .returned (.tuple #[.int .i64 (nQ x y m), .bool (bQ x y m)]) ∧ Bl w w' := by
  go_enter Tryz.func257, Tryz.ntmps257
  go_wp2_with (go_at_call 258; refine (froot_any _ _ _).mono ?_; rintro e w1 ⟨rfl, h1⟩)
  go_ret2
  exact ⟨rfl, ((Bl.refl _).alloc _).trans h1⟩

theorem Prs.two (w : World) (blk : Nat) (hb : blk = w.heap.size) (x0 y0 x1 y1 : Int) (t : TypeId) : Prs (w.alloc (.cells #[.int .i64 x0, .int .i64 y0, .int .i64 x1, .int .i64 y1] t)) blk [(x0, y0), (x1, y1)] := by
  subst hb
  refine ⟨by simp, fun k hk => ?_⟩
  rcases (by simp at hk; omega : k = 0 ∨ k = 1) with rfl | rfl <;> simp [go_sem]
theorem Prs.four (w : World) (blk : Nat) (hb : blk = w.heap.size) (x0 y0 x1 y1 x2 y2 x3 y3 : Int) (t : TypeId) : Prs (w.alloc (.cells #[.int .i64 x0, .int .i64 y0, .int .i64 x1, .int .i64 y1, .int .i64 x2, .int .i64 y2, .int .i64 x3, .int .i64 y3] t)) blk [(x0, y0), (x1, y1), (x2, y2), (x3, y3)] := by
  subst hb
  refine ⟨by simp, fun k hk => ?_⟩
  rcases (by simp at hk; omega : k = 0 ∨ k = 1 ∨ k = 2 ∨ k = 3) with rfl | rfl | rfl | rfl <;> simp [go_sem]

theorem addT (a b : En) (blk : Nat) (w : World) (h : Prs w blk (prs2 a b)) :
    Calls Tryz.prog 252 #[enV a, enV b, .func (.func 250) #[] #[], .slice (some ⟨blk, 0, none⟩) 2 2] w fun e w' => e = .returned (enV (addE a b)) ∧ Bl w w' :=
  toldE_any _ nA bA a b (prs2 a b) blk w (enters Tryz.func250 (by kernel_rfl) rfl) addF_any (by simp [prs2]) h
theorem subT (a b : En) (blk : Nat) (w : World) (h : Prs w blk (prsX a b)) :
    Calls Tryz.prog 252 #[enV a, enV b, .func (.func 259) #[] #[], .slice (some ⟨blk, 0, none⟩) 2 2] w fun e w' => e = .returned (enV (subE a b)) ∧ Bl w w' :=
  toldE_any _ nS bS a b (prsX a b) blk w (enters Tryz.func259 (by kernel_rfl) rfl) subF_any (by simp [prsX]) h
theorem mulT (a b : En) (blk : Nat) (w : World) (h : Prs w blk (prs4 a b)) :
    Calls Tryz.prog 252 #[enV a, enV b, .func (.func 255) #[] #[], .slice (some ⟨blk, 0, none⟩) 4 4] w fun e w' => e = .returned (enV (mulE a b)) ∧ Bl w w' :=
  toldE_any _ fmN fmB a b (prs4 a b) blk w (enters Tryz.func255 (by kernel_rfl) rfl) mulF_any (by simp [prs4]) h
theorem divT (a b : En) (blk : Nat) (w : World) (h : Prs w blk (prs4 a b)) :
    Calls Tryz.prog 252 #[enV a, enV b, .func (.func 253) #[] #[], .slice (some ⟨blk, 0, none⟩) 4 4] w fun e w' => e = .returned (enV (toldE fdN fdB a b (prs4 a b))) ∧ Bl w w' :=
  toldE_any _ fdN fdB a b (prs4 a b) blk w (enters Tryz.func253 (by kernel_rfl) rfl) divF_any (by simp [prs4]) h
theorem rootT (a : En) (blk : Nat) (w : World) (h : Prs w blk (prs2 a a)) :
    Calls Tryz.prog 252 #[enV a, enV a, .func (.func 257) #[] #[], .slice (some ⟨blk, 0, none⟩) 2 2] w fun e w' => e = .returned (enV (rootE a)) ∧ Bl w w' :=
  toldE_any _ nQ bQ a a (prs2 a a) blk w (enters Tryz.func257 (by kernel_rfl) rfl) rootF_any (by simp [prs2]) h

/-- The world behind the boxes of two numbers, and of a third one that is yet to be told. -/
structure Three (w W : World) (a b : En) : Prop where
  eq : W = ((w.alloc (.cells #[.int .i64 a.v, .int .i64 a.l, .int .i64 a.h, .bool a.bad] 28)).alloc (.cells #[.int .i64 b.v, .int .i64 b.l, .int .i64 b.h, .bool b.bad] 28)).alloc (.cells #[.int .i64 0, .int .i64 0, .int .i64 0, .bool false] 28)
  bl : Bl w W
  ba : Box W w.heap.size a
  bb : Box W (w.heap.size + 1) b
  bz : Box W (w.heap.size + 1 + 1) zeroE
  size : W.heap.size = w.heap.size + 1 + 1 + 1
theorem three_ex (w : World) (a b : En) : ∃ W, Three w W a b := by
  refine ⟨_, rfl, (((Bl.refl _).alloc _).alloc _).alloc _, (Box.new w a 28).later (((Bl.refl _).alloc _).alloc _), ?_, ?_, by simp⟩
  · have := (Box.new (w.alloc (.cells #[.int .i64 a.v, .int .i64 a.l, .int .i64 a.h, .bool a.bad] 28)) b 28).later ((Bl.refl _).alloc (.cells #[.int .i64 0, .int .i64 0, .int .i64 0, .bool false] 28))
    simpa using this
  · have := Box.new ((w.alloc (.cells #[.int .i64 a.v, .int .i64 a.l, .int .i64 a.h, .bool a.bad] 28)).alloc (.cells #[.int .i64 b.v, .int .i64 b.l, .int .i64 b.h, .bool b.bad] 28)) zeroE 28
    simpa [zeroE] using this

theorem eadd_any (a b : En) (w : World) :
    Calls Tryz.prog 243 #[enV a, enV b] w fun e w' => e = .returned (enV (addE a b)) ∧ Bl w w' := by
  obtain ⟨W, X⟩ := three_ex w a b
  have HX := hideP X
  clear X
  have T := hideP (addT a b)
  generalize addE a b = r at *
  go_enter Tryz.func243, Tryz.ntmps243
  go_wp2_with fail
  rw [← HX.out.eq]
  refine (T.out _ _ (Prs.two _ _ HX.out.size.symm _ _ _ _ _)).mono ?_
  rintro e w1 ⟨rfl, h1⟩
  obtain ⟨c0, c1, c2, c3, f0, f1, f2, f3, lt⟩ := HX.out.bz.later (((Bl.refl _).alloc _).trans h1)
  go_wp2
  simp [bodyPost, results, Tryz.results243, go_sem, c0, c1, c2, c3]
  exact Bl.set4 ((HX.out.bl.alloc _).trans h1) (by omega) _ _ _ _
theorem esub_any (a b : En) (w : World) :
    Calls Tryz.prog 249 #[enV a, enV b] w fun e w' => e = .returned (enV (subE a b)) ∧ Bl w w' := by
  obtain ⟨W, X⟩ := three_ex w a b
  have HX := hideP X
  clear X
  have T := hideP (subT a b)
  generalize subE a b = r at *
  go_enter Tryz.func249, Tryz.ntmps249
  go_wp2_with fail
  rw [← HX.out.eq]
  refine (T.out _ _ (Prs.two _ _ HX.out.size.symm _ _ _ _ _)).mono ?_
  rintro e w1 ⟨rfl, h1⟩
  obtain ⟨c0, c1, c2, c3, f0, f1, f2, f3, lt⟩ := HX.out.bz.later (((Bl.refl _).alloc _).trans h1)
  go_wp2
  simp [bodyPost, results, Tryz.results249, go_sem, c0, c1, c2, c3]
  exact Bl.set4 ((HX.out.bl.alloc _).trans h1) (by omega) _ _ _ _
theorem emul_any (a b : En) (w : World) :
    Calls Tryz.prog 245 #[enV a, enV b] w fun e w' => e = .returned (enV (mulE a b)) ∧ Bl w w' := by
  obtain ⟨W, X⟩ := three_ex w a b
  have HX := hideP X
  clear X
  have T := hideP (mulT a b)
  generalize mulE a b = r at *
  go_enter Tryz.func245, Tryz.ntmps245
  go_wp2_with fail
  rw [← HX.out.eq]
  refine (T.out _ _ (Prs.four _ _ HX.out.size.symm _ _ _ _ _ _ _ _ _)).mono ?_
  rintro e w1 ⟨rfl, h1⟩
  obtain ⟨c0, c1, c2, c3, f0, f1, f2, f3, lt⟩ := HX.out.bz.later (((Bl.refl _).alloc _).trans h1)
  go_wp2
  simp [bodyPost, results, Tryz.results245, go_sem, c0, c1, c2, c3]
  exact Bl.set4 ((HX.out.bl.alloc _).trans h1) (by omega) _ _ _ _

theorem ediv_any (a b : En) (w : World) :
    Calls Tryz.prog 244 #[enV a, enV b] w fun e w' => e = .returned (enV (divE a b)) ∧ Bl w w' := by
  obtain ⟨W, X⟩ := three_ex w a b
  have HX := hideP X
  clear X
  have T := hideP (divT a b)
  unfold divE
  generalize toldE fdN fdB a b (prs4 a b) = r at *
  have hcase : (decide (b.l ≤ 0) = false) ∨ (decide (b.l ≤ 0) = true ∧ decide (0 ≤ b.h) = false) ∨ (decide (b.l ≤ 0) = true ∧ decide (0 ≤ b.h) = true) := by
    cases decide (b.l ≤ 0) <;> cases decide (0 ≤ b.h) <;> simp
  rcases hcase with k1 | ⟨k1, k2⟩ | ⟨k1, k2⟩
  · have hz : zeroB b = false := by unfold zeroB; rw [k1]; rfl
    rw [hz]
    clear hz
    have k := of_decide_eq_false k1
    go_enter Tryz.func244, Tryz.ntmps244
    go_wp2_with fail
    rw [← HX.out.eq]
    refine (T.out _ _ (Prs.four _ _ HX.out.size.symm _ _ _ _ _ _ _ _ _)).mono ?_
    rintro e w1 ⟨rfl, h1⟩
    obtain ⟨c0, c1, c2, c3, f0, f1, f2, f3, lt⟩ := HX.out.bz.later (((Bl.refl _).alloc _).trans h1)
    go_wp2
    simp [bodyPost, results, Tryz.results244, go_sem, c0, c1, c2, c3]
    exact Bl.set4 ((HX.out.bl.alloc _).trans h1) (by omega) _ _ _ _
  · have hz : zeroB b = false := by unfold zeroB; rw [k1, k2]; rfl
    rw [hz]
    clear hz
    have k := of_decide_eq_true k1
    have k' := of_decide_eq_false k2
    go_enter Tryz.func244, Tryz.ntmps244
    go_wp2_with fail
    rw [← HX.out.eq]
    refine (T.out _ _ (Prs.four _ _ HX.out.size.symm _ _ _ _ _ _ _ _ _)).mono ?_
    rintro e w1 ⟨rfl, h1⟩
    obtain ⟨c0, c1, c2, c3, f0, f1, f2, f3, lt⟩ := HX.out.bz.later (((Bl.refl _).alloc _).trans h1)
    go_wp2
    simp [bodyPost, results, Tryz.results244, go_sem, c0, c1, c2, c3]
    exact Bl.set4 ((HX.out.bl.alloc _).trans h1) (by omega) _ _ _ _
  · have hz : zeroB b = true := by unfold zeroB; rw [k1, k2]; rfl
    rw [hz]
    clear hz
    have k := of_decide_eq_true k1
    have k' := of_decide_eq_true k2
    go_enter Tryz.func244, Tryz.ntmps244
    go_wp2_with fail
    rw [← HX.out.eq]
    refine (wrong_any _).mono ?_
    rintro e w1 ⟨rfl, h1⟩
    obtain ⟨c0, c1, c2, c3, f0, f1, f2, f3, lt⟩ := HX.out.bz.later h1
    go_wp2
    simp [bodyPost, results, Tryz.results244, go_sem, c0, c1, c2, c3]
    exact Bl.set4 (HX.out.bl.trans h1) (by omega) _ _ _ _

/-- The world behind the box of one number, and of another one that is yet to be told. -/
structure Two (w W : World) (a : En) : Prop where
  eq : W = (w.alloc (.cells #[.int .i64 a.v, .int .i64 a.l, .int .i64 a.h, .bool a.bad] 28)).alloc (.cells #[.int .i64 0, .int .i64 0, .int .i64 0, .bool false] 28)
  bl : Bl w W
  ba : Box W w.heap.size a
  bz : Box W (w.heap.size + 1) zeroE
  size : W.heap.size = w.heap.size + 1 + 1
theorem two_ex (w : World) (a : En) : ∃ W, Two w W a := by
  refine ⟨_, rfl, ((Bl.refl _).alloc _).alloc _, (Box.new w a 28).later ((Bl.refl _).alloc _), ?_, by simp⟩
  have := Box.new (w.alloc (.cells #[.int .i64 a.v, .int .i64 a.l, .int .i64 a.h, .bool a.bad] 28)) zeroE 28
  simpa [zeroE] using this
theorem eroot_any (a : En) (w : World) :
    Calls Tryz.prog 247 #[enV a] w fun e w' => e = .returned (enV (rootE a)) ∧ Bl w w' := by
  obtain ⟨W, X⟩ := two_ex w a
  have HX := hideP X
  clear X
  have T := hideP (rootT a)
  generalize rootE a = r at *
  go_enter Tryz.func247, Tryz.ntmps247
  go_wp2_with fail
  rw [← HX.out.eq]
  refine (T.out _ _ (Prs.two _ _ HX.out.size.symm _ _ _ _ _)).mono ?_
  rintro e w1 ⟨rfl, h1⟩
  obtain ⟨c0, c1, c2, c3, f0, f1, f2, f3, lt⟩ := HX.out.bz.later (((Bl.refl _).alloc _).trans h1)
  go_wp2
  simp [bodyPost, results, Tryz.results247, go_sem, c0, c1, c2, c3]
  exact Bl.set4 ((HX.out.bl.alloc _).trans h1) (by omega) _ _ _ _

end Go.Proofs.YthnadgbloamlaaaGreat
