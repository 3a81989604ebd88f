/- The walk of EnvPoints. -/
import Derived.Test.YtgidengfnelggaaEnL
namespace Go.Proofs.Ytgidengfnelggaa
open Go.RowKit
set_option linter.unusedSimpArgs false
set_option linter.unusedVariables false

theorem wide_any (x : En) (most : Int) (w : World) (hm : most ≤ 1) (h : Wd x most) :
    Calls Try.prog 30 #[enV x, .int .i64 most] w fun e w' => e = .returned (.bool true) ∧ Bl w w' := by
  obtain ⟨v, l, h', bd⟩ := x
  cases bd
  · rcases h with h | ⟨h1, h2⟩
    · cases h
    · simp only at h1 h2
      go_enter Try.func30, Try.ntmps30
      go_wp2
      go_ret
      exact ⟨by simp [h2], (Bl.refl _).alloc _⟩
  · go_enter Try.func30, Try.ntmps30
    go_wp2
    go_ret
    exact ⟨rfl, (Bl.refl _).alloc _⟩

/-- The world behind the boxes of two numbers. -/
structure AB (w W : World) (a b : En) : Prop where
  eq : W = (w.alloc (.cells #[.int .i64 a.v, .int .i64 a.l, .int .i64 a.h, .bool a.bad] 23)).alloc (.cells #[.int .i64 b.v, .int .i64 b.l, .int .i64 b.h, .bool b.bad] 23)
  bl : Bl w W
  ba : Box W w.heap.size a
  bb : Box W (w.heap.size + 1) b
  size : W.heap.size = w.heap.size + 1 + 1
theorem ab_ex (w : World) (a b : En) : ∃ W, AB w W a b := by
  refine ⟨_, rfl, ((Bl.refl _).alloc _).alloc _, (Box.new w a 23).later ((Bl.refl _).alloc _), ?_, by simp⟩
  have := Box.new (w.alloc (.cells #[.int .i64 a.v, .int .i64 a.l, .int .i64 a.h, .bool a.bad] 23)) b 23
  simpa using this

set_option maxHeartbeats 1000000 in
theorem walk_EnvPoints (n m : Int) (w : World) :
    Calls Try.prog 10 #[.int .i64 n, .int .i64 m] w fun e w' => e = .returned (.bool true) ∧ Bl w w' := by
  have PA := hideP (pointE_any n)
  have PB := hideP (pointE_any m)
  have X1 := hideP (wd_add n m (frB n) (frB m))
  have X2 := hideP (wd_sub n m (frB n) (frB m))
  have X3 := hideP (wd_neg n (frB n))
  have X4 := hideP (wd_mul n m (frB n) (frB m))
  have X5 := hideP (wd_div n m (frB n) (frB m))
  have X6 := hideP (wd_root n (frB n))
  generalize ptE n (frB n) = a at *
  generalize ptE m (frB m) = b at *
  go_enter Try.func10, Try.ntmps10
  go_wp2_with fail
  refine (PA.out _).mono ?_
  rintro e w1 ⟨rfl, h1⟩
  go_wp2_with fail
  refine (PB.out _).mono ?_
  rintro e w2 ⟨rfl, h2⟩
  have HB2 := hideP (h1.trans h2)
  clear h1 h2
  obtain ⟨W, X⟩ := ab_ex w2 a b
  have HX := hideP X
  clear X
  go_wp2_with fail
  rw [← HX.out.eq]
  refine (eadd_any a b _).mono ?_
  rintro e w3 ⟨rfl, h3⟩
  have H3 := hideP h3
  clear h3
  go_wp2_with fail
  refine (wide_any _ 0 _ (by decide) X1.out).mono ?_
  rintro e w4 ⟨rfl, h4⟩
  have H4 := hideP (H3.out.trans h4)
  clear h4
  obtain ⟨a0, a1, a2, a3, _, _, _, _, _⟩ := HX.out.ba.later H4.out
  obtain ⟨b0, b1, b2, b3, _, _, _, _, _⟩ := HX.out.bb.later H4.out
  go_wp2_with fail
  refine (esub_any a b _).mono ?_
  rintro e w5 ⟨rfl, h5⟩
  have H5 := hideP (H4.out.trans h5)
  clear h5
  clear a0 a1 a2 a3 b0 b1 b2 b3
  go_wp2_with fail
  refine (wide_any _ 0 _ (by decide) X2.out).mono ?_
  rintro e w6 ⟨rfl, h6⟩
  have H6 := hideP (H5.out.trans h6)
  clear h6
  obtain ⟨a0, a1, a2, a3, _, _, _, _, _⟩ := HX.out.ba.later H6.out
  go_wp2_with fail
  refine (eneg_any a _).mono ?_
  rintro e w7 ⟨rfl, h7⟩
  have H7 := hideP (H6.out.trans h7)
  clear h7
  clear a0 a1 a2 a3
  go_wp2_with fail
  refine (wide_any _ 0 _ (by decide) X3.out).mono ?_
  rintro e w8 ⟨rfl, h8⟩
  have H8 := hideP (H7.out.trans h8)
  clear h8
  obtain ⟨a0, a1, a2, a3, _, _, _, _, _⟩ := HX.out.ba.later H8.out
  obtain ⟨b0, b1, b2, b3, _, _, _, _, _⟩ := HX.out.bb.later H8.out
  go_wp2_with fail
  refine (emul_any a b _).mono ?_
  rintro e w9 ⟨rfl, h9⟩
  have H9 := hideP (H8.out.trans h9)
  clear h9
  clear a0 a1 a2 a3 b0 b1 b2 b3
  go_wp2_with fail
  refine (wide_any _ 1 _ (by decide) X4.out).mono ?_
  rintro e w10 ⟨rfl, h10⟩
  have H10 := hideP (H9.out.trans h10)
  clear h10
  obtain ⟨a0, a1, a2, a3, _, _, _, _, _⟩ := HX.out.ba.later H10.out
  obtain ⟨b0, b1, b2, b3, _, _, _, _, _⟩ := HX.out.bb.later H10.out
  go_wp2_with fail
  refine (ediv_any a b _).mono ?_
  rintro e w11 ⟨rfl, h11⟩
  have H11 := hideP (H10.out.trans h11)
  clear h11
  clear a0 a1 a2 a3 b0 b1 b2 b3
  go_wp2_with fail
  refine (wide_any _ 1 _ (by decide) X5.out).mono ?_
  rintro e w12 ⟨rfl, h12⟩
  have H12 := hideP (H11.out.trans h12)
  clear h12
  obtain ⟨a0, a1, a2, a3, _, _, _, _, _⟩ := HX.out.ba.later H12.out
  go_wp2_with fail
  refine (eroot_any a _).mono ?_
  rintro e w13 ⟨rfl, h13⟩
  have H13 := hideP (H12.out.trans h13)
  clear h13
  clear a0 a1 a2 a3
  go_wp2_with fail
  refine (wide_any _ 1 _ (by decide) X6.out).mono ?_
  rintro e w14 ⟨rfl, h14⟩
  have H14 := hideP (H13.out.trans h14)
  clear h14
  go_wp2_with fail
  refine (awake3_any _).mono ?_
  rintro e w15 ⟨rfl, h15⟩
  have H15 := hideP (H14.out.trans h15)
  clear h15
  go_wp2
  go_ret
  exact ⟨rfl, (HB2.out.trans HX.out.bl).trans H15.out⟩
end Go.Proofs.Ytgidengfnelggaa
