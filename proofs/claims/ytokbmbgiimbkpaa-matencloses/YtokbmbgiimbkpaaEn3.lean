/- Contracts of env's Add, Sub, Mul, Div, Root (layer 3). -/
import Derived.Test.YtokbmbgiimbkpaaEn2
namespace Go.Proofs.Ytokbmbgiimbkpaa
open Go.RowKit
set_option linter.unusedSimpArgs false
set_option linter.unusedVariables false

theorem addF_any (x y m : Int) (w : World) :
    Calls Try.prog 139 #[prV x y, .int .i64 m] w fun e w' => e = .returned (.tuple #[.int .i64 (nA x y m), .bool (bA x y m)]) ∧ Bl w w' := by
  go_enter Try.func139, Try.ntmps139
  go_wp2_with (go_at_call 140; refine (fadd_any _ _ _).mono ?_; rintro e w1 ⟨rfl, h1⟩)
  go_ret2
  exact ⟨rfl, ((Bl.refl _).alloc _).trans h1⟩
theorem subF_any (x y m : Int) (w : World) :
    Calls Try.prog 145 #[prV x y, .int .i64 m] w fun e w' => e = .returned (.tuple #[.int .i64 (nS x y m), .bool (bS x y m)]) ∧ Bl w w' := by
  go_enter Try.func145, Try.ntmps145
  go_wp2_with (go_at_call 146; refine (fsub_any _ _ _).mono ?_; rintro e w1 ⟨rfl, h1⟩)
  go_ret2
  exact ⟨rfl, ((Bl.refl _).alloc _).trans h1⟩
theorem mulF_any (x y m : Int) (w : World) :
    Calls Try.prog 142 #[prV x y, .int .i64 m] w fun e w' => e = .returned (.tuple #[.int .i64 (fmN x y m), .bool (fmB x y m)]) ∧ Bl w w' := by
  go_enter Try.func142, Try.ntmps142
  go_wp2_with (go_at_call 143; refine (fmul_any _ _ _ _).mono ?_; rintro e w1 ⟨rfl, h1⟩)
  go_ret2
  exact ⟨rfl, ((Bl.refl _).alloc _).trans h1⟩
theorem Prs.two (w : World) (blk : Nat) (hb : blk = w.heap.size) (x0 y0 x1 y1 : Int) (t : TypeId) : Prs (w.alloc (.cells #[.int .i64 x0, .int .i64 y0, .int .i64 x1, .int .i64 y1] t)) blk [(x0, y0), (x1, y1)] := by
  subst hb
  refine ⟨by simp, fun k hk => ?_⟩
  rcases (by simp at hk; omega : k = 0 ∨ k = 1) with rfl | rfl <;> simp [go_sem]
theorem Prs.four (w : World) (blk : Nat) (hb : blk = w.heap.size) (x0 y0 x1 y1 x2 y2 x3 y3 : Int) (t : TypeId) : Prs (w.alloc (.cells #[.int .i64 x0, .int .i64 y0, .int .i64 x1, .int .i64 y1, .int .i64 x2, .int .i64 y2, .int .i64 x3, .int .i64 y3] t)) blk [(x0, y0), (x1, y1), (x2, y2), (x3, y3)] := by
  subst hb
  refine ⟨by simp, fun k hk => ?_⟩
  rcases (by simp at hk; omega : k = 0 ∨ k = 1 ∨ k = 2 ∨ k = 3) with rfl | rfl | rfl | rfl <;> simp [go_sem]

theorem addT (a b : En) (blk : Nat) (w : World) (h : Prs w blk (prs2 a b)) :
    Calls Try.prog 141 #[enV a, enV b, .func (.func 139) #[] #[], .slice (some ⟨blk, 0, none⟩) 2 2] w fun e w' => e = .returned (enV (addE a b)) ∧ Bl w w' :=
  toldE_any _ nA bA a b (prs2 a b) blk w (enters Try.func139 (by kernel_rfl) rfl) addF_any (by simp [prs2]) h
theorem subT (a b : En) (blk : Nat) (w : World) (h : Prs w blk (prsX a b)) :
    Calls Try.prog 141 #[enV a, enV b, .func (.func 145) #[] #[], .slice (some ⟨blk, 0, none⟩) 2 2] w fun e w' => e = .returned (enV (subE a b)) ∧ Bl w w' :=
  toldE_any _ nS bS a b (prsX a b) blk w (enters Try.func145 (by kernel_rfl) rfl) subF_any (by simp [prsX]) h
theorem mulT (a b : En) (blk : Nat) (w : World) (h : Prs w blk (prs4 a b)) :
    Calls Try.prog 141 #[enV a, enV b, .func (.func 142) #[] #[], .slice (some ⟨blk, 0, none⟩) 4 4] w fun e w' => e = .returned (enV (mulE a b)) ∧ Bl w w' :=
  toldE_any _ fmN fmB a b (prs4 a b) blk w (enters Try.func142 (by kernel_rfl) rfl) mulF_any (by simp [prs4]) h
/-- The world behind the boxes of two numbers, and of a third one that is yet to be told. -/
structure Three (w W : World) (a b : En) : Prop where
  eq : W = ((w.alloc (.cells #[.int .i64 a.v, .int .i64 a.l, .int .i64 a.h, .bool a.bad] 57)).alloc (.cells #[.int .i64 b.v, .int .i64 b.l, .int .i64 b.h, .bool b.bad] 57)).alloc (.cells #[.int .i64 0, .int .i64 0, .int .i64 0, .bool false] 57)
  bl : Bl w W
  ba : Box W w.heap.size a
  bb : Box W (w.heap.size + 1) b
  bz : Box W (w.heap.size + 1 + 1) zeroE
  size : W.heap.size = w.heap.size + 1 + 1 + 1
theorem three_ex (w : World) (a b : En) : ∃ W, Three w W a b := by
  refine ⟨_, rfl, (((Bl.refl _).alloc _).alloc _).alloc _, (Box.new w a 57).later (((Bl.refl _).alloc _).alloc _), ?_, ?_, by simp⟩
  · have := (Box.new (w.alloc (.cells #[.int .i64 a.v, .int .i64 a.l, .int .i64 a.h, .bool a.bad] 57)) b 57).later ((Bl.refl _).alloc (.cells #[.int .i64 0, .int .i64 0, .int .i64 0, .bool false] 57))
    simpa using this
  · have := Box.new ((w.alloc (.cells #[.int .i64 a.v, .int .i64 a.l, .int .i64 a.h, .bool a.bad] 57)).alloc (.cells #[.int .i64 b.v, .int .i64 b.l, .int .i64 b.h, .bool b.bad] 57)) zeroE 57
    simpa [zeroE] using this

theorem eadd_any (a b : En) (w : World) :
    Calls Try.prog 135 #[enV a, enV b] w fun e w' => e = .returned (enV (addE a b)) ∧ Bl w w' := by
  obtain ⟨W, X⟩ := three_ex w a b
  have HX := hideP X
  clear X
  have T := hideP (addT a b)
  generalize addE a b = r at *
  go_enter Try.func135, Try.ntmps135
  go_wp2_with fail
  rw [← HX.out.eq]
  refine (T.out _ _ (Prs.two _ _ HX.out.size.symm _ _ _ _ _)).mono ?_
  rintro e w1 ⟨rfl, h1⟩
  obtain ⟨c0, c1, c2, c3, f0, f1, f2, f3, lt⟩ := HX.out.bz.later (((Bl.refl _).alloc _).trans h1)
  go_wp2
  simp [bodyPost, results, Try.results135, go_sem, c0, c1, c2, c3]
  exact Bl.set4 ((HX.out.bl.alloc _).trans h1) (by omega) _ _ _ _
theorem esub_any (a b : En) (w : World) :
    Calls Try.prog 138 #[enV a, enV b] w fun e w' => e = .returned (enV (subE a b)) ∧ Bl w w' := by
  obtain ⟨W, X⟩ := three_ex w a b
  have HX := hideP X
  clear X
  have T := hideP (subT a b)
  generalize subE a b = r at *
  go_enter Try.func138, Try.ntmps138
  go_wp2_with fail
  rw [← HX.out.eq]
  refine (T.out _ _ (Prs.two _ _ HX.out.size.symm _ _ _ _ _)).mono ?_
  rintro e w1 ⟨rfl, h1⟩
  obtain ⟨c0, c1, c2, c3, f0, f1, f2, f3, lt⟩ := HX.out.bz.later (((Bl.refl _).alloc _).trans h1)
  go_wp2
  simp [bodyPost, results, Try.results138, go_sem, c0, c1, c2, c3]
  exact Bl.set4 ((HX.out.bl.alloc _).trans h1) (by omega) _ _ _ _
theorem emul_any (a b : En) (w : World) :
    Calls Try.prog 136 #[enV a, enV b] w fun e w' => e = .returned (enV (mulE a b)) ∧ Bl w w' := by
  obtain ⟨W, X⟩ := three_ex w a b
  have HX := hideP X
  clear X
  have T := hideP (mulT a b)
  generalize mulE a b = r at *
  go_enter Try.func136, Try.ntmps136
  go_wp2_with fail
  rw [← HX.out.eq]
  refine (T.out _ _ (Prs.four _ _ HX.out.size.symm _ _ _ _ _ _ _ _ _)).mono ?_
  rintro e w1 ⟨rfl, h1⟩
  obtain ⟨c0, c1, c2, c3, f0, f1, f2, f3, lt⟩ := HX.out.bz.later (((Bl.refl _).alloc _).trans h1)
  go_wp2
  simp [bodyPost, results, Try.results136, go_sem, c0, c1, c2, c3]
  exact Bl.set4 ((HX.out.bl.alloc _).trans h1) (by omega) _ _ _ _

/-- The world behind the box of one number, and of another one that is yet to be told. -/
structure Two (w W : World) (a : En) : Prop where
  eq : W = (w.alloc (.cells #[.int .i64 a.v, .int .i64 a.l, .int .i64 a.h, .bool a.bad] 57)).alloc (.cells #[.int .i64 0, .int .i64 0, .int .i64 0, .bool false] 57)
  bl : Bl w W
  ba : Box W w.heap.size a
  bz : Box W (w.heap.size + 1) zeroE
  size : W.heap.size = w.heap.size + 1 + 1
theorem two_ex (w : World) (a : En) : ∃ W, Two w W a := by
  refine ⟨_, rfl, ((Bl.refl _).alloc _).alloc _, (Box.new w a 57).later ((Bl.refl _).alloc _), ?_, by simp⟩
  have := Box.new (w.alloc (.cells #[.int .i64 a.v, .int .i64 a.l, .int .i64 a.h, .bool a.bad] 57)) zeroE 57
  simpa [zeroE] using this
end Go.Proofs.Ytokbmbgiimbkpaa
