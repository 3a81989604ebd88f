/- Enclosed numbers, of fractions of whole numbers: what is told of enclosed numbers encloses what is told of the fractions that they enclose. Mathematics alone. -/
import Derived.Test.YtlbmkjicbkfmjaaGreatGD
import Derived.Test.YtlbmkjicbkfmjaaGreatRefC
/- Contracts of env's Add, Sub, Mul, Div, Root (layer 3). -/
namespace Go.Proofs.YtlbmkjicbkfmjaaGreat
open Go.RowKit
set_option linter.unusedSimpArgs false
set_option linter.unusedVariables false

theorem addF_any (x y m : Int) (w : World) :
    Calls Tryz.prog 208 #[prV x y, .int .i64 m] w fun e w' => e = .returned (.tuple #[.int .i64 (nA x y m), .bool (bA x y m)]) ∧ Bl w w' := by
  go_enter Tryz.func208, Tryz.ntmps208
  go_wp2_with (go_at_call 209; refine (fadd_any _ _ _).mono ?_; rintro e w1 ⟨rfl, h1⟩)
  go_ret2
  exact ⟨rfl, ((Bl.refl _).alloc _).trans h1⟩
theorem subF_any (x y m : Int) (w : World) :
    Calls Tryz.prog 217 #[prV x y, .int .i64 m] w fun e w' => e = .returned (.tuple #[.int .i64 (nS x y m), .bool (bS x y m)]) ∧ Bl w w' := by
  go_enter Tryz.func217, Tryz.ntmps217
  go_wp2_with (go_at_call 218; refine (fsub_any _ _ _).mono ?_; rintro e w1 ⟨rfl, h1⟩)
  go_ret2
  exact ⟨rfl, ((Bl.refl _).alloc _).trans h1⟩
theorem mulF_any (x y m : Int) (w : World) :
    Calls Tryz.prog 213 #[prV x y, .int .i64 m] w fun e w' => e = .returned (.tuple #[.int .i64 (fmN x y m), .bool (fmB x y m)]) ∧ Bl w w' := by
  go_enter Tryz.func213, Tryz.ntmps213
  go_wp2_with (go_at_call 214; refine (fmul_any _ _ _ _).mono ?_; rintro e w1 ⟨rfl, h1⟩)
  go_ret2
  exact ⟨rfl, ((Bl.refl _).alloc _).trans h1⟩
theorem divF_any (x y m : Int) (w : World) :
    Calls Tryz.prog 211 #[prV x y, .int .i64 m] w fun e w' => e = .returned (.tuple #[.int .i64 (fdN x y m), .bool (fdB x y m)]) ∧ Bl w w' := by
  go_enter Tryz.func211, Tryz.ntmps211
  go_wp2_with (go_at_call 212; refine (fdiv_any _ _ _ _).mono ?_; rintro e w1 ⟨rfl, h1⟩)
  go_ret2
  exact ⟨rfl, ((Bl.refl _).alloc _).trans h1⟩
theorem rootF_any (x y m : Int) (w : World) :
    Calls Tryz.prog 215 #[prV x y, .int .i64 m] w fun e w' => e = .returned (.tuple #[.int .i64 (nQ x y m), .bool (bQ x y m)]) ∧ Bl w w' := by
  go_enter Tryz.func215, Tryz.ntmps215
  go_wp2_with (go_at_call 216; refine (froot_any _ _ _).mono ?_; rintro e w1 ⟨rfl, h1⟩)
  go_ret2
  exact ⟨rfl, ((Bl.refl _).alloc _).trans h1⟩

theorem Prs.two (w : World) (blk : Nat) (hb : blk = w.heap.size) (x0 y0 x1 y1 : Int) (t : TypeId) : Prs (w.alloc (.cells #[.int .i64 x0, .int .i64 y0, .int .i64 x1, .int .i64 y1] t)) blk [(x0, y0), (x1, y1)] := by
  subst hb
  refine ⟨by simp, fun k hk => ?_⟩
  rcases (by simp at hk; omega : k = 0 ∨ k = 1) with rfl | rfl <;> simp [go_sem]
theorem Prs.four (w : World) (blk : Nat) (hb : blk = w.heap.size) (x0 y0 x1 y1 x2 y2 x3 y3 : Int) (t : TypeId) : Prs (w.alloc (.cells #[.int .i64 x0, .int .i64 y0, .int .i64 x1, .int .i64 y1, .int .i64 x2, .int .i64 y2, .int .i64 x3, .int .i64 y3] t)) blk [(x0, y0), (x1, y1), (x2, y2), (x3, y3)] := by
  subst hb
  refine ⟨by simp, fun k hk => ?_⟩
  rcases (by simp at hk; omega : k = 0 ∨ k = 1 ∨ k = 2 ∨ k = 3) with rfl | rfl | rfl | rfl <;> simp [go_sem]

theorem addT (a b : En) (blk : Nat) (w : World) (h : Prs w blk (prs2 a b)) :
    Calls Tryz.prog 210 #[enV a, enV b, .func (.func 208) #[] #[], .slice (some ⟨blk, 0, none⟩) 2 2] w fun e w' => e = .returned (enV (addE a b)) ∧ Bl w w' :=
  toldE_any _ nA bA a b (prs2 a b) blk w (enters Tryz.func208 (by kernel_rfl) rfl) addF_any (by simp [prs2]) h
theorem subT (a b : En) (blk : Nat) (w : World) (h : Prs w blk (prsX a b)) :
    Calls Tryz.prog 210 #[enV a, enV b, .func (.func 217) #[] #[], .slice (some ⟨blk, 0, none⟩) 2 2] w fun e w' => e = .returned (enV (subE a b)) ∧ Bl w w' :=
  toldE_any _ nS bS a b (prsX a b) blk w (enters Tryz.func217 (by kernel_rfl) rfl) subF_any (by simp [prsX]) h
theorem mulT (a b : En) (blk : Nat) (w : World) (h : Prs w blk (prs4 a b)) :
    Calls Tryz.prog 210 #[enV a, enV b, .func (.func 213) #[] #[], .slice (some ⟨blk, 0, none⟩) 4 4] w fun e w' => e = .returned (enV (mulE a b)) ∧ Bl w w' :=
  toldE_any _ fmN fmB a b (prs4 a b) blk w (enters Tryz.func213 (by kernel_rfl) rfl) mulF_any (by simp [prs4]) h
theorem divT (a b : En) (blk : Nat) (w : World) (h : Prs w blk (prs4 a b)) :
    Calls Tryz.prog 210 #[enV a, enV b, .func (.func 211) #[] #[], .slice (some ⟨blk, 0, none⟩) 4 4] w fun e w' => e = .returned (enV (toldE fdN fdB a b (prs4 a b))) ∧ Bl w w' :=
  toldE_any _ fdN fdB a b (prs4 a b) blk w (enters Tryz.func211 (by kernel_rfl) rfl) divF_any (by simp [prs4]) h
theorem rootT (a : En) (blk : Nat) (w : World) (h : Prs w blk (prs2 a a)) :
    Calls Tryz.prog 210 #[enV a, enV a, .func (.func 215) #[] #[], .slice (some ⟨blk, 0, none⟩) 2 2] w fun e w' => e = .returned (enV (rootE a)) ∧ Bl w w' :=
  toldE_any _ nQ bQ a a (prs2 a a) blk w (enters Tryz.func215 (by kernel_rfl) rfl) rootF_any (by simp [prs2]) h

/-- The world behind the boxes of two numbers, and of a third one that is yet to be told. -/
structure Three (w W : World) (a b : En) : Prop where
  eq : W = ((w.alloc (.cells #[.int .i64 a.v, .int .i64 a.l, .int .i64 a.h, .bool a.bad] 28)).alloc (.cells #[.int .i64 b.v, .int .i64 b.l, .int .i64 b.h, .bool b.bad] 28)).alloc (.cells #[.int .i64 0, .int .i64 0, .int .i64 0, .bool false] 28)
  bl : Bl w W
  ba : Box W w.heap.size a
  bb : Box W (w.heap.size + 1) b
  bz : Box W (w.heap.size + 1 + 1) zeroE
  size : W.heap.size = w.heap.size + 1 + 1 + 1
theorem three_ex (w : World) (a b : En) : ∃ W, Three w W a b := by
  refine ⟨_, rfl, (((Bl.refl _).alloc _).alloc _).alloc _, (Box.new w a 28).later (((Bl.refl _).alloc _).alloc _), ?_, ?_, by simp⟩
  · have := (Box.new (w.alloc (.cells #[.int .i64 a.v, .int .i64 a.l, .int .i64 a.h, .bool a.bad] 28)) b 28).later ((Bl.refl _).alloc (.cells #[.int .i64 0, .int .i64 0, .int .i64 0, .bool false] 28))
    simpa using this
  · have := Box.new ((w.alloc (.cells #[.int .i64 a.v, .int .i64 a.l, .int .i64 a.h, .bool a.bad] 28)).alloc (.cells #[.int .i64 b.v, .int .i64 b.l, .int .i64 b.h, .bool b.bad] 28)) zeroE 28
    simpa [zeroE] using this

theorem eadd_any (a b : En) (w : World) :
    Calls Tryz.prog 201 #[enV a, enV b] w fun e w' => e = .returned (enV (addE a b)) ∧ Bl w w' := by
  obtain ⟨W, X⟩ := three_ex w a b
  have HX := hideP X
  clear X
  have T := hideP (addT a b)
  generalize addE a b = r at *
  go_enter Tryz.func201, Tryz.ntmps201
  go_wp2_with fail
  rw [← HX.out.eq]
  refine (T.out _ _ (Prs.two _ _ HX.out.size.symm _ _ _ _ _)).mono ?_
  rintro e w1 ⟨rfl, h1⟩
  obtain ⟨c0, c1, c2, c3, f0, f1, f2, f3, lt⟩ := HX.out.bz.later (((Bl.refl _).alloc _).trans h1)
  go_wp2
  simp [bodyPost, results, Tryz.results201, go_sem, c0, c1, c2, c3]
  exact Bl.set4 ((HX.out.bl.alloc _).trans h1) (by omega) _ _ _ _
theorem esub_any (a b : En) (w : World) :
    Calls Tryz.prog 207 #[enV a, enV b] w fun e w' => e = .returned (enV (subE a b)) ∧ Bl w w' := by
  obtain ⟨W, X⟩ := three_ex w a b
  have HX := hideP X
  clear X
  have T := hideP (subT a b)
  generalize subE a b = r at *
  go_enter Tryz.func207, Tryz.ntmps207
  go_wp2_with fail
  rw [← HX.out.eq]
  refine (T.out _ _ (Prs.two _ _ HX.out.size.symm _ _ _ _ _)).mono ?_
  rintro e w1 ⟨rfl, h1⟩
  obtain ⟨c0, c1, c2, c3, f0, f1, f2, f3, lt⟩ := HX.out.bz.later (((Bl.refl _).alloc _).trans h1)
  go_wp2
  simp [bodyPost, results, Tryz.results207, go_sem, c0, c1, c2, c3]
  exact Bl.set4 ((HX.out.bl.alloc _).trans h1) (by omega) _ _ _ _
theorem emul_any (a b : En) (w : World) :
    Calls Tryz.prog 203 #[enV a, enV b] w fun e w' => e = .returned (enV (mulE a b)) ∧ Bl w w' := by
  obtain ⟨W, X⟩ := three_ex w a b
  have HX := hideP X
  clear X
  have T := hideP (mulT a b)
  generalize mulE a b = r at *
  go_enter Tryz.func203, Tryz.ntmps203
  go_wp2_with fail
  rw [← HX.out.eq]
  refine (T.out _ _ (Prs.four _ _ HX.out.size.symm _ _ _ _ _ _ _ _ _)).mono ?_
  rintro e w1 ⟨rfl, h1⟩
  obtain ⟨c0, c1, c2, c3, f0, f1, f2, f3, lt⟩ := HX.out.bz.later (((Bl.refl _).alloc _).trans h1)
  go_wp2
  simp [bodyPost, results, Tryz.results203, go_sem, c0, c1, c2, c3]
  exact Bl.set4 ((HX.out.bl.alloc _).trans h1) (by omega) _ _ _ _

theorem ediv_any (a b : En) (w : World) :
    Calls Tryz.prog 202 #[enV a, enV b] w fun e w' => e = .returned (enV (divE a b)) ∧ Bl w w' := by
  obtain ⟨W, X⟩ := three_ex w a b
  have HX := hideP X
  clear X
  have T := hideP (divT a b)
  unfold divE
  generalize toldE fdN fdB a b (prs4 a b) = r at *
  have hcase : (decide (b.l ≤ 0) = false) ∨ (decide (b.l ≤ 0) = true ∧ decide (0 ≤ b.h) = false) ∨ (decide (b.l ≤ 0) = true ∧ decide (0 ≤ b.h) = true) := by
    cases decide (b.l ≤ 0) <;> cases decide (0 ≤ b.h) <;> simp
  rcases hcase with k1 | ⟨k1, k2⟩ | ⟨k1, k2⟩
  · have hz : zeroB b = false := by unfold zeroB; rw [k1]; rfl
    rw [hz]
    clear hz
    have k := of_decide_eq_false k1
    go_enter Tryz.func202, Tryz.ntmps202
    go_wp2_with fail
    rw [← HX.out.eq]
    refine (T.out _ _ (Prs.four _ _ HX.out.size.symm _ _ _ _ _ _ _ _ _)).mono ?_
    rintro e w1 ⟨rfl, h1⟩
    obtain ⟨c0, c1, c2, c3, f0, f1, f2, f3, lt⟩ := HX.out.bz.later (((Bl.refl _).alloc _).trans h1)
    go_wp2
    simp [bodyPost, results, Tryz.results202, go_sem, c0, c1, c2, c3]
    exact Bl.set4 ((HX.out.bl.alloc _).trans h1) (by omega) _ _ _ _
  · have hz : zeroB b = false := by unfold zeroB; rw [k1, k2]; rfl
    rw [hz]
    clear hz
    have k := of_decide_eq_true k1
    have k' := of_decide_eq_false k2
    go_enter Tryz.func202, Tryz.ntmps202
    go_wp2_with fail
    rw [← HX.out.eq]
    refine (T.out _ _ (Prs.four _ _ HX.out.size.symm _ _ _ _ _ _ _ _ _)).mono ?_
    rintro e w1 ⟨rfl, h1⟩
    obtain ⟨c0, c1, c2, c3, f0, f1, f2, f3, lt⟩ := HX.out.bz.later (((Bl.refl _).alloc _).trans h1)
    go_wp2
    simp [bodyPost, results, Tryz.results202, go_sem, c0, c1, c2, c3]
    exact Bl.set4 ((HX.out.bl.alloc _).trans h1) (by omega) _ _ _ _
  · have hz : zeroB b = true := by unfold zeroB; rw [k1, k2]; rfl
    rw [hz]
    clear hz
    have k := of_decide_eq_true k1
    have k' := of_decide_eq_true k2
    go_enter Tryz.func202, Tryz.ntmps202
    go_wp2_with fail
    rw [← HX.out.eq]
    refine (wrong_any _).mono ?_
    rintro e w1 ⟨rfl, h1⟩
    obtain ⟨c0, c1, c2, c3, f0, f1, f2, f3, lt⟩ := HX.out.bz.later h1
    go_wp2
    simp [bodyPost, results, Tryz.results202, go_sem, c0, c1, c2, c3]
    exact Bl.set4 (HX.out.bl.trans h1) (by omega) _ _ _ _

/-- The world behind the box of one number, and of another one that is yet to be told. -/
structure Two (w W : World) (a : En) : Prop where
  eq : W = (w.alloc (.cells #[.int .i64 a.v, .int .i64 a.l, .int .i64 a.h, .bool a.bad] 28)).alloc (.cells #[.int .i64 0, .int .i64 0, .int .i64 0, .bool false] 28)
  bl : Bl w W
  ba : Box W w.heap.size a
  bz : Box W (w.heap.size + 1) zeroE
  size : W.heap.size = w.heap.size + 1 + 1
theorem two_ex (w : World) (a : En) : ∃ W, Two w W a := by
  refine ⟨_, rfl, ((Bl.refl _).alloc _).alloc _, (Box.new w a 28).later ((Bl.refl _).alloc _), ?_, by simp⟩
  have := Box.new (w.alloc (.cells #[.int .i64 a.v, .int .i64 a.l, .int .i64 a.h, .bool a.bad] 28)) zeroE 28
  simpa [zeroE] using this
theorem eroot_any (a : En) (w : World) :
    Calls Tryz.prog 205 #[enV a] w fun e w' => e = .returned (enV (rootE a)) ∧ Bl w w' := by
  obtain ⟨W, X⟩ := two_ex w a
  have HX := hideP X
  clear X
  have T := hideP (rootT a)
  generalize rootE a = r at *
  go_enter Tryz.func205, Tryz.ntmps205
  go_wp2_with fail
  rw [← HX.out.eq]
  refine (T.out _ _ (Prs.two _ _ HX.out.size.symm _ _ _ _ _)).mono ?_
  rintro e w1 ⟨rfl, h1⟩
  obtain ⟨c0, c1, c2, c3, f0, f1, f2, f3, lt⟩ := HX.out.bz.later (((Bl.refl _).alloc _).trans h1)
  go_wp2
  simp [bodyPost, results, Tryz.results205, go_sem, c0, c1, c2, c3]
  exact Bl.set4 ((HX.out.bl.alloc _).trans h1) (by omega) _ _ _ _

end Go.Proofs.YtlbmkjicbkfmjaaGreat

/- The contract of env's Neg (layer 3). -/
namespace Go.Proofs.YtlbmkjicbkfmjaaGreat
open Go.RowKit
set_option linter.unusedSimpArgs false
set_option linter.unusedVariables false

def negE (a : En) : En := subE (ptE 0 true) a
theorem point0 (w : World) : Calls Tryz.prog 24 #[.int .i64 0] w fun e w' => e = .returned (enV (ptE 0 true)) ∧ Bl w w' := pointE_any 0 w
theorem eneg_any (a : En) (w : World) :
    Calls Tryz.prog 204 #[enV a] w fun e w' => e = .returned (enV (negE a)) ∧ Bl w w' := by
  obtain ⟨W, X⟩ := two_ex w a
  have HX := hideP X
  have KP := hideP (fun w' (h : Bl W w') => (⟨(X.ba.later h).c0, (X.ba.later h).c1, (X.ba.later h).c2, (X.ba.later h).c3, (X.bz.later h).f0, (X.bz.later h).f1, (X.bz.later h).f2, (X.bz.later h).f3, (X.bz.later h).c0, (X.bz.later h).c1, (X.bz.later h).c2, (X.bz.later h).c3⟩ :
    w'.cell? ⟨w.heap.size, 0, none⟩ = some (.int .i64 a.v) ∧ w'.cell? ⟨w.heap.size, 1, none⟩ = some (.int .i64 a.l) ∧ w'.cell? ⟨w.heap.size, 2, none⟩ = some (.int .i64 a.h) ∧ w'.cell? ⟨w.heap.size, 3, none⟩ = some (.bool a.bad) ∧ w'.frozen? ⟨w.heap.size + 1, 0, none⟩ = false ∧ w'.frozen? ⟨w.heap.size + 1, 1, none⟩ = false ∧ w'.frozen? ⟨w.heap.size + 1, 2, none⟩ = false ∧ w'.frozen? ⟨w.heap.size + 1, 3, none⟩ = false ∧ w'.cell? ⟨w.heap.size + 1, 0, none⟩ = some (.int .i64 0) ∧ w'.cell? ⟨w.heap.size + 1, 1, none⟩ = some (.int .i64 0) ∧ w'.cell? ⟨w.heap.size + 1, 2, none⟩ = some (.int .i64 0) ∧ w'.cell? ⟨w.heap.size + 1, 3, none⟩ = some (.bool false)))
  clear X
  have T := hideP (esub_any (ptE 0 true) a)
  unfold negE
  generalize subE (ptE 0 true) a = r at *
  go_enter Tryz.func204, Tryz.ntmps204
  go_wp2_with fail
  rw [← HX.out.eq]
  obtain ⟨a0, a1, a2, a3, _, _, _, _, _⟩ := HX.out.ba
  go_region_with
    (first
      | (go_at_call 24; refine (point0 _).mono ?_; rintro e w1 ⟨rfl, h1⟩; obtain ⟨p0, p1, p2, p3, _⟩ := KP.out _ (Bl.trans (by repeat (first | exact Bl.refl _ | apply Bl.drew)) h1))
      | (go_at_call 207; refine (T.out _).mono ?_; rintro e w2 ⟨rfl, h2⟩; obtain ⟨_, _, _, _, f0, f1, f2, f3, c0, c1, c2, c3⟩ := KP.out _ (Bl.trans (Bl.trans (by repeat (first | exact Bl.refl _ | apply Bl.drew)) h1) h2)))
  all_goals
    go_wp2
    simp [bodyPost, results, Tryz.results204, go_sem, c0, c1, c2, c3]
    exact Bl.set4 (Bl.trans (Bl.trans (by repeat (first | exact HX.out.bl | apply Bl.drew)) h1) h2) (by omega) _ _ _ _
end Go.Proofs.YtlbmkjicbkfmjaaGreat

/- Contracts of env.beside, Encloses (layer 3), and of the document's Encloses. -/
namespace Go.Proofs.YtlbmkjicbkfmjaaGreat
open Go.RowKit
set_option linter.unusedSimpArgs false
set_option linter.unusedVariables false

theorem tdiv_floor (n d : Int) (hd : 0 < d) : (n.tmod d < 0 ∧ n.tdiv d - 1 = n / d ∧ n.tmod d + d = n % d) ∨ (0 ≤ n.tmod d ∧ n.tdiv d = n / d ∧ n.tmod d = n % d) := by
  have e := Int.mul_tdiv_add_tmod n d
  have l1 := Int.tmod_lt_of_pos n hd
  have l2 : -d < n.tmod d := by
    have := Int.lt_tmod_of_pos n hd
    omega
  rcases Int.lt_or_le (n.tmod d) 0 with h | h
  · left
    have u := (Int.ediv_emod_unique hd (a := n) (q := n.tdiv d - 1) (r := n.tmod d + d)).2 ⟨by rw [Int.mul_sub, Int.mul_one]; omega, by omega, by omega⟩
    exact ⟨h, u.1.symm, u.2.symm⟩
  · right
    have u := (Int.ediv_emod_unique hd (a := n) (q := n.tdiv d) (r := n.tmod d)).2 ⟨by omega, h, l1⟩
    exact ⟨h, u.1.symm, u.2.symm⟩
/-- The number of units that is not above n by d, and the one that is not below it; whether both are told. -/
def bsB (n d : Int) : Bool := foB (n / d)
def bsL (n d : Int) : Int := toN (n * 16777216 / d) (bsB n d)
def bsH (n d : Int) : Int := toN (-(-(n * 16777216) / d)) (bsB n d)
theorem up_floor (x d : Int) (hd : 0 < d) : -(-x / d) = if 0 < x % d then x / d + 1 else x / d := by
  have a1 := Int.mul_ediv_add_emod x d
  have a2 := Int.emod_nonneg x (show d ≠ 0 by omega)
  have a3 := Int.emod_lt_of_pos x hd
  generalize x / d = q at *
  generalize x % d = r at *
  by_cases h : 0 < r
  · rw [if_pos h]
    have hn := (Int.ediv_emod_unique hd (a := -x) (q := -q - 1) (r := d - r)).2 ⟨by rw [Int.mul_sub, Int.mul_neg, Int.mul_one]; omega, by omega, by omega⟩
    rw [hn.1]; omega
  · rw [if_neg h]
    have hn := (Int.ediv_emod_unique hd (a := -x) (q := -q) (r := 0)).2 ⟨by rw [Int.mul_neg]; omega, by omega, hd⟩
    rw [hn.1]; omega
theorem units_floor (n d : Int) (hd : 0 < d) : n * 16777216 / d = n / d * 16777216 + n % d * 16777216 / d ∧ n * 16777216 % d = n % d * 16777216 % d := by
  have e : n * 16777216 = n % d * 16777216 + n / d * 16777216 * d := by
    have := Int.mul_ediv_add_emod n d
    rw [Int.mul_right_comm, Int.mul_comm (n / d) d, ← Int.add_mul]
    congr 1
    omega
  rw [e]
  constructor
  · rw [Int.add_mul_ediv_right _ _ (by omega), Int.add_comm]
  · rw [Int.add_mul_emod_self_right]

set_option maxHeartbeats 1000000 in
theorem beside_any (n d : Int) (w : World) (hd : 0 < d) (hn : rightB n = true) (hr : rightB d = true) :
    Calls Tryz.prog 92 #[.int .i64 n, .int .i64 d] w fun e w' => e = .returned (.tuple #[.int .i64 (bsL n d), .int .i64 (bsH n d), .bool (bsB n d)]) ∧ Bl w w' := by
  have kn := rightB_iff.1 hn
  have kd := rightB_iff.1 hr
  have uf := units_floor n d hd
  have ue := up_floor (n * 16777216) d hd
  have r0 := Int.emod_nonneg n (show d ≠ 0 by omega)
  have r1 := Int.emod_lt_of_pos n hd
  have tf := tdiv_floor n d hd
  have q0 : -4611686018427387904 ≤ n / d ∧ n / d ≤ 4611686018427387903 := by
    have := Int.mul_ediv_add_emod n d
    constructor
    · rcases Int.lt_or_le (n / d) (-4611686018427387904) with h | h
      · have := Int.mul_le_mul_of_nonneg_left (show n / d ≤ -4611686018427387905 by omega) (show 0 ≤ d by omega)
        omega
      · exact h
    · exact Int.le_trans (Int.ediv_le_ediv hd kn.2) (Int.ediv_le_self _ (by omega))
  unfold bsL bsH
  rw [ue, uf.1, uf.2]
  have F := fof_any (n / d)
  unfold foN at F
  have e1 : bsB n d = foB (n / d) := rfl
  rw [e1]
  clear ue uf e1 hn hr
  generalize n / d = q at *
  generalize n % d = r at *
  have hr2 : r * 16777216 / 18446744073709551616 < d := by omega
  have M := hideP (mul64_any r 16777216 ⟨r0, by omega⟩ ⟨by decide, by decide⟩)
  have D := hideP (fun w => div64_any (r * 16777216) d w (by omega) ⟨by omega, by omega⟩ hr2)
  have p0 : 0 ≤ r * 16777216 / d ∧ r * 16777216 / d < 16777216 := by
    refine ⟨Int.ediv_nonneg (by omega) (by omega), Int.ediv_lt_of_lt_mul hd ?_⟩
    rw [Int.mul_comm]
    exact Int.mul_lt_mul_of_pos_left r1 (by decide)
  have p1 := Int.emod_nonneg (r * 16777216) (show d ≠ 0 by omega)
  have hF0 : foB q = true → -67108864 ≤ q ∧ q ≤ 67108864 := fun h => by simpa [foB] using h
  have HF := hideP F
  clear F hr2
  generalize r * 16777216 / d = P at *
  generalize r * 16777216 % d = R at *
  cases hq : foB q
  · rw [hq] at HF
    simp only [toN_f] at HF ⊢
    clear hF0 hq
    go_enter Tryz.func92, Tryz.ntmps92
    go_wp2_with fail
    go_quiet (fail)
    generalize n.tdiv d = T at *
    generalize n.tmod d = U at *
    have hw : Bl w (w.drewN nq) := SmallBl _ _ _
    have HW := hideP hw
    clear hw
    have tf' : (r - d < 0 ∧ q + 1 = T ∧ r - d = U) ∨ (0 ≤ r ∧ q = T ∧ r = U) := by
      rcases tf with ⟨t1, t2, t3⟩ | ⟨t1, t2, t3⟩
      · left; omega
      · right; omega
    clear tf
    rcases tf' with ⟨t1, rfl, rfl⟩ | ⟨t1, rfl, rfl⟩
    all_goals
      go_wp2_with fail
      refine (HF.out _).mono ?_
      rintro e w1 ⟨rfl, h1⟩
      go_wp2
      go_ret3
      exact ⟨rfl, HW.out.trans h1⟩
  rw [hq] at HF
  obtain ⟨q1, q2⟩ := hF0 hq
  simp only [toN_t] at HF ⊢
  clear hF0 hq
  by_cases hR : 0 < R
  · rw [if_pos hR]
    go_enter Tryz.func92, Tryz.ntmps92
    go_wp2_with fail
    go_quiet (fail)
    generalize n.tdiv d = T at *
    generalize n.tmod d = U at *
    have hw : Bl w (w.drewN nq) := SmallBl _ _ _
    have HW := hideP hw
    clear hw
    have tf' : (r - d < 0 ∧ q + 1 = T ∧ r - d = U) ∨ (0 ≤ r ∧ q = T ∧ r = U) := by
      rcases tf with ⟨t1, t2, t3⟩ | ⟨t1, t2, t3⟩
      · left; omega
      · right; omega
    clear tf
    rcases tf' with ⟨t1, rfl, rfl⟩ | ⟨t1, rfl, rfl⟩
    all_goals
      go_wp2_with fail
      refine (HF.out _).mono ?_
      rintro e w1 ⟨rfl, h1⟩
      go_wp2_with fail
      refine (M.out _).mono ?_
      rintro e w2 ⟨rfl, rfl⟩
      go_wp2_with fail
      refine (D.out _).mono ?_
      rintro e w3 ⟨rfl, h3⟩
      go_wp2
      go_ret3
      exact ⟨rfl, (HW.out.trans h1).trans h3⟩
  · rw [if_neg hR]
    go_enter Tryz.func92, Tryz.ntmps92
    go_wp2_with fail
    go_quiet (fail)
    generalize n.tdiv d = T at *
    generalize n.tmod d = U at *
    have hw : Bl w (w.drewN nq) := SmallBl _ _ _
    have HW := hideP hw
    clear hw
    have tf' : (r - d < 0 ∧ q + 1 = T ∧ r - d = U) ∨ (0 ≤ r ∧ q = T ∧ r = U) := by
      rcases tf with ⟨t1, t2, t3⟩ | ⟨t1, t2, t3⟩
      · left; omega
      · right; omega
    clear tf
    rcases tf' with ⟨t1, rfl, rfl⟩ | ⟨t1, rfl, rfl⟩
    all_goals
      go_wp2_with fail
      refine (HF.out _).mono ?_
      rintro e w1 ⟨rfl, h1⟩
      go_wp2_with fail
      refine (M.out _).mono ?_
      rintro e w2 ⟨rfl, rfl⟩
      go_wp2_with fail
      refine (D.out _).mono ?_
      rintro e w3 ⟨rfl, h3⟩
      go_wp2
      go_ret3
      exact ⟨rfl, (HW.out.trans h1).trans h3⟩

/-- Is n by d enclosed (P3.2)? -/
def withinB (a : En) (n d : Int) : Bool := decide (a.l * d ≤ n * 16777216) && decide (n * 16777216 ≤ a.h * d)
def enclB (a : En) (n d : Int) : Bool := fineB a && decide (1 ≤ d) && rightB n && rightB d && withinB a n d
theorem bs_within (a : En) (n d : Int) (ha : fineB a = true) (hd : 0 < d) : (bsB n d && (decide (a.l ≤ bsL n d) && decide (bsH n d ≤ a.h))) = withinB a n d := by
  obtain ⟨_, _, _, f1, f2⟩ := fineB_iff.1 ha
  have g1 := frB_iff.1 f1
  have g2 := frB_iff.1 f2
  unfold bsL bsH withinB
  cases hb : bsB n d
  · rw [Bool.false_and, eq_comm, Bool.and_eq_false_iff]
    have hq : n / d < -67108864 ∨ 67108864 < n / d := by
      unfold bsB foB at hb
      rw [Bool.and_eq_false_iff] at hb
      rcases hb with h | h
      · have := of_decide_eq_false h; omega
      · have := of_decide_eq_false h; omega
    have e := Int.mul_ediv_add_emod n d
    have r0 := Int.emod_nonneg n (show d ≠ 0 by omega)
    have r1 := Int.emod_lt_of_pos n hd
    rcases hq with h | h
    · left
      apply decide_eq_false
      intro hc
      have k1 := Int.mul_le_mul_of_nonneg_left (show n / d ≤ -67108865 by omega) (show 0 ≤ d by omega)
      have k2 := Int.mul_le_mul_of_nonneg_right g1.1 (show 0 ≤ d by omega)
      omega
    · right
      apply decide_eq_false
      intro hc
      have k1 := Int.mul_le_mul_of_nonneg_left (show 67108865 ≤ n / d by omega) (show 0 ≤ d by omega)
      have k2 := Int.mul_le_mul_of_nonneg_right g2.2 (show 0 ≤ d by omega)
      omega
  · rw [Bool.true_and, toN_t, toN_t]
    have i1 : a.l ≤ n * 16777216 / d ↔ a.l * d ≤ n * 16777216 := Int.le_ediv_iff_mul_le hd
    have i2 : -(-(n * 16777216) / d) ≤ a.h ↔ n * 16777216 ≤ a.h * d := by
      have : -a.h ≤ -(n * 16777216) / d ↔ -a.h * d ≤ -(n * 16777216) := Int.le_ediv_iff_mul_le hd
      rw [Int.neg_mul] at this
      constructor
      · intro h; have := this.1 (by omega); omega
      · intro h; have := this.2 (by omega); omega
    rw [decide_eq_decide.2 i1, decide_eq_decide.2 i2]

set_option maxHeartbeats 1000000 in
theorem encl_any (a : En) (n d : Int) (w : World) :
    Calls Tryz.prog 38 #[enV a, .int .i64 n, .int .i64 d] w fun e w' => e = .returned (.bool (enclB a n d)) ∧ Bl w w' := by
  obtain ⟨W, hW⟩ : ∃ W, W = w.alloc (.cells #[.int .i64 a.v, .int .i64 a.l, .int .i64 a.h, .bool a.bad] 28) := ⟨_, rfl⟩
  have b0 : Bl w W := by rw [hW]; exact (Bl.refl _).alloc _
  have x0 : Box W w.heap.size a := by rw [hW]; exact Box.new w a _
  have c1 := x0.c1
  have HW := hideP hW
  have HX := hideP x0
  clear hW x0
  have F := fine_any a
  unfold enclB
  cases hf : fineB a
  · rw [hf] at F
    have HF := hideP F
    clear F
    go_enter Tryz.func38, Tryz.ntmps38
    go_wp2_with fail
    rw [← HW.out]
    refine (HF.out _).mono ?_
    rintro e w1 ⟨rfl, h1⟩
    go_wp2
    go_ret
    exact ⟨rfl, b0.trans h1⟩
  rw [hf] at F
  have HF := hideP F
  clear F
  have ways : (d ≤ 0) ∨ (0 < d ∧ 4611686018427387903 < d) ∨ (0 < d ∧ d ≤ 4611686018427387903 ∧ 4611686018427387903 < n) ∨ (0 < d ∧ d ≤ 4611686018427387903 ∧ n ≤ 4611686018427387903 ∧ n < -4611686018427387903) ∨
      (0 < d ∧ d ≤ 4611686018427387903 ∧ n ≤ 4611686018427387903 ∧ -4611686018427387903 ≤ n) := by omega
  have no : ∀ x : Bool, (d ≤ 0 ∨ 4611686018427387903 < d ∨ 4611686018427387903 < n ∨ n < -4611686018427387903) → (true && decide (1 ≤ d) && rightB n && rightB d && x) = false := by
    intro x h
    rw [Bool.true_and]
    rcases h with h | h | h | h
    · rw [decide_eq_false (by omega)]; rfl
    · have : rightB d = false := by unfold rightB; rw [decide_eq_false (show ¬ d ≤ 4611686018427387903 by omega), Bool.and_false]
      rw [this, Bool.and_false, Bool.false_and]
    · have : rightB n = false := by unfold rightB; rw [decide_eq_false (show ¬ n ≤ 4611686018427387903 by omega), Bool.and_false]
      rw [this, Bool.and_false, Bool.false_and, Bool.false_and]
    · have : rightB n = false := by unfold rightB; rw [decide_eq_false (show ¬ -4611686018427387903 ≤ n by omega), Bool.false_and]
      rw [this, Bool.and_false, Bool.false_and, Bool.false_and]
  rcases ways with k | ⟨k, k2⟩ | ⟨k, k2, k3⟩ | ⟨k, k2, k3, k4⟩ | ⟨k, k2, k3, k4⟩
  · rw [no _ (.inl k)]
    clear no
    go_enter Tryz.func38, Tryz.ntmps38
    go_wp2_with fail
    rw [← HW.out]
    refine (HF.out _).mono ?_
    rintro e w1 ⟨rfl, h1⟩
    go_wp2
    go_ret
    exact ⟨rfl, b0.trans h1⟩
  · rw [no _ (.inr (.inl k2))]
    clear no
    go_enter Tryz.func38, Tryz.ntmps38
    go_wp2_with fail
    rw [← HW.out]
    refine (HF.out _).mono ?_
    rintro e w1 ⟨rfl, h1⟩
    go_wp2
    go_ret
    exact ⟨rfl, b0.trans h1⟩
  · rw [no _ (.inr (.inr (.inl k3)))]
    clear no
    go_enter Tryz.func38, Tryz.ntmps38
    go_wp2_with fail
    rw [← HW.out]
    refine (HF.out _).mono ?_
    rintro e w1 ⟨rfl, h1⟩
    go_wp2
    go_ret
    exact ⟨rfl, b0.trans h1⟩
  · rw [no _ (.inr (.inr (.inr k4)))]
    clear no
    go_enter Tryz.func38, Tryz.ntmps38
    go_wp2_with fail
    rw [← HW.out]
    refine (HF.out _).mono ?_
    rintro e w1 ⟨rfl, h1⟩
    go_wp2
    go_ret
    exact ⟨rfl, b0.trans h1⟩
  · clear no
    have rn : rightB n = true := rightB_eq (by omega)
    have rd : rightB d = true := rightB_eq (by omega)
    have S := fun w => beside_any n d w k rn rd
    have e := bs_within a n d hf k
    rw [rn, rd, decide_eq_true (show 1 ≤ d by omega), ← e]
    clear rn rd e hf
    generalize bsB n d = ok at *
    generalize bsL n d = x at *
    generalize bsH n d = y at *
    have HS := hideP S
    clear S
    cases ok
    · go_enter Tryz.func38, Tryz.ntmps38
      go_wp2_with fail
      rw [← HW.out]
      refine (HF.out _).mono ?_
      rintro e w1 ⟨rfl, h1⟩
      go_wp2_with fail
      refine (HS.out _).mono ?_
      rintro e w2 ⟨rfl, h2⟩
      go_wp2
      go_ret
      exact ⟨rfl, (b0.trans h1).trans h2⟩
    · by_cases kl : a.l ≤ x
      · rw [decide_eq_true kl]
        go_enter Tryz.func38, Tryz.ntmps38
        go_wp2_with fail
        rw [← HW.out]
        refine (HF.out _).mono ?_
        rintro e w1 ⟨rfl, h1⟩
        go_wp2_with fail
        refine (HS.out _).mono ?_
        rintro e w2 ⟨rfl, h2⟩
        have b1 := (HX.out.later (h1.trans h2)).c1
        have b2 := (HX.out.later (h1.trans h2)).c2
        go_wp2
        go_ret
        exact ⟨rfl, (b0.trans h1).trans h2⟩
      · rw [decide_eq_false kl]
        go_enter Tryz.func38, Tryz.ntmps38
        go_wp2_with fail
        rw [← HW.out]
        refine (HF.out _).mono ?_
        rintro e w1 ⟨rfl, h1⟩
        go_wp2_with fail
        refine (HS.out _).mono ?_
        rintro e w2 ⟨rfl, h2⟩
        have b1 := (HX.out.later (h1.trans h2)).c1
        have b2 := (HX.out.later (h1.trans h2)).c2
        go_wp2
        go_ret
        exact ⟨rfl, (b0.trans h1).trans h2⟩

theorem cmp_le (x y : Int) : decide (cmpI x y ≤ 0) = decide (x ≤ y) := by
  apply decide_eq_decide.2
  rcases cmpI_three x y with ⟨h, e⟩ | ⟨h, e⟩ | ⟨h, e⟩ <;> rw [e] <;> omega
theorem ref_within (a : En) (n d : Int) : (decide (cmpI (a.l * d) (n * 16777216) ≤ 0) && decide (cmpI (n * 16777216) (a.h * d) ≤ 0)) = withinB a n d := by
  rw [cmp_le, cmp_le]; rfl

end Go.Proofs.YtlbmkjicbkfmjaaGreat

/- What the document fixes of a third (layer 3). -/
namespace Go.Proofs.YtlbmkjicbkfmjaaGreat
open Go.RowKit
set_option linter.unusedSimpArgs false
set_option linter.unusedVariables false

def thirdE : En := ⟨5592405, 5592405, 5592406, false⟩
theorem third_div : divE (ptE 16777216 true) (ptE 50331648 true) = thirdE := by kernel_rfl
theorem third_encl : enclB thirdE 1 3 = true := by kernel_rfl
theorem third_meet : meetB thirdE thirdE = true := by kernel_rfl
theorem third_fine : fineB thirdE = true := by kernel_rfl
theorem third_sign : signE thirdE = 1 := by kernel_rfl
theorem pointU (w : World) : Calls Tryz.prog 24 #[.int .i64 16777216] w fun e w' => e = .returned (enV (ptE 16777216 true)) ∧ Bl w w' := pointE_any 16777216 w
theorem point3U (w : World) : Calls Tryz.prog 24 #[.int .i64 50331648] w fun e w' => e = .returned (enV (ptE 50331648 true)) ∧ Bl w w' := pointE_any 50331648 w
theorem divU (w : World) : Calls Tryz.prog 202 #[enV (ptE 16777216 true), enV (ptE 50331648 true)] w fun e w' => e = .returned (.agg #[.int .i64 5592405, .int .i64 5592405, .int .i64 5592406, .bool false]) ∧ Bl w w' := by
  have := ediv_any (ptE 16777216 true) (ptE 50331648 true) w
  rw [third_div] at this
  exact this
theorem enclU (w : World) : Calls Tryz.prog 38 #[.agg #[.int .i64 5592405, .int .i64 5592405, .int .i64 5592406, .bool false], .int .i64 1, .int .i64 3] w fun e w' => e = .returned (.bool true) ∧ Bl w w' := by
  have := encl_any thirdE 1 3 w
  rw [third_encl] at this
  exact this
theorem fineU (w : World) : Calls Tryz.prog 91 #[.agg #[.int .i64 5592405, .int .i64 5592405, .int .i64 5592406, .bool false]] w fun e w' => e = .returned (.bool true) ∧ Bl w w' := by
  have := fine_any thirdE w
  rw [third_fine] at this
  exact this
theorem signU (w : World) : Calls Tryz.prog 206 #[.agg #[.int .i64 5592405, .int .i64 5592405, .int .i64 5592406, .bool false]] w fun e w' => e = .returned (.int .i64 1) ∧ Bl w w' := by
  have := signE_any thirdE w
  rw [third_sign] at this
  exact this
theorem wrongU (w : World) : Calls Tryz.prog 109 #[] w fun e w' => e = .returned (.agg #[.int .i64 0, .int .i64 0, .int .i64 0, .bool true]) ∧ Bl w w' := wrong_any w

theorem field_bad (x y z b : Value) (w : World) : (Instr.field 28 (.agg #[x, y, z, b]) 3).run Tryz.prog w = .ok b w := by kernel_rfl

end Go.Proofs.YtlbmkjicbkfmjaaGreat

/- The mathematics of the laws of layer 3. -/
namespace Go.Proofs.YtlbmkjicbkfmjaaGreat
open Go.RowKit
set_option linter.unusedSimpArgs false
set_option linter.unusedVariables false

theorem low2 {N : Int → Int → Int → Int} (hN : Bd N) (x y : Int) : lowF N [(x, y), (x, y)] = N x y 1 := by
  have := hN x y 1
  simp only [lowF, List.foldl_cons, List.foldl_nil]; omega
theorem high2 {N : Int → Int → Int → Int} (hN : Bd N) (x y : Int) : highF N [(x, y), (x, y)] = N x y 2 := by
  have := hN x y 2
  simp only [highF, List.foldl_cons, List.foldl_nil]; omega
theorem low4 {N : Int → Int → Int → Int} (hN : Bd N) (x y : Int) : lowF N [(x, y), (x, y), (x, y), (x, y)] = N x y 1 := by
  have := hN x y 1
  simp only [lowF, List.foldl_cons, List.foldl_nil]; omega
theorem high4 {N : Int → Int → Int → Int} (hN : Bd N) (x y : Int) : highF N [(x, y), (x, y), (x, y), (x, y)] = N x y 2 := by
  have := hN x y 2
  simp only [highF, List.foldl_cons, List.foldl_nil]; omega
/-- A list of one pair, twice or four times. -/
def Same (ps : List (Int × Int)) (x y : Int) : Prop := ps = [(x, y), (x, y)] ∨ ps = [(x, y), (x, y), (x, y), (x, y)]
theorem Same.low {ps : List (Int × Int)} {x y : Int} (h : Same ps x y) {N : Int → Int → Int → Int} (hN : Bd N) : lowF N ps = N x y 1 := by
  rcases h with rfl | rfl
  · exact low2 hN x y
  · exact low4 hN x y
theorem Same.high {ps : List (Int × Int)} {x y : Int} (h : Same ps x y) {N : Int → Int → Int → Int} (hN : Bd N) : highF N ps = N x y 2 := by
  rcases h with rfl | rfl
  · exact high2 hN x y
  · exact high4 hN x y
theorem Same.ok {ps : List (Int × Int)} {x y : Int} (h : Same ps x y) (B : Int → Int → Int → Bool) : okF B ps = (B x y 1 && B x y 2) := by
  rcases h with rfl | rfl <;> simp [okF]

theorem told_nofine {N : Int → Int → Int → Int} {B : Int → Int → Int → Bool} {a b : En} {ps : List (Int × Int)} (h : fineB a = false ∨ fineB b = false) : toldE N B a b ps = wrongE := by
  apply told_bad
  unfold okE
  rcases h with h | h <;> simp [h]
theorem okE_iff {B : Int → Int → Int → Bool} {a b : En} {ps : List (Int × Int)} : okE B a b ps = true ↔ B a.v b.v 0 = true ∧ fineB a = true ∧ fineB b = true ∧ okF B ps = true := by
  unfold okE; simp [Bool.and_eq_true, and_assoc]
theorem wrong_nofine : fineB wrongE = false := rfl
theorem pt_true (n : Int) : ptE n true = ⟨n, n, n, false⟩ := rfl
theorem pt_false (n : Int) : ptE n false = wrongE := rfl
theorem pt_fine {n : Int} (h : frB n = true) : fineB ⟨n, n, n, false⟩ = true := fineB_iff.2 ⟨rfl, Int.le_refl _, Int.le_refl _, h, h⟩

/-- Bad, or as wide at most. -/
def Wd (x : En) (most : Int) : Prop := x.bad = true ∨ (-4611686018427387904 ≤ x.h - x.l ∧ x.h - x.l ≤ most)
theorem wd_wrong (k : Int) : Wd wrongE k := .inl rfl
theorem wd_told {N : Int → Int → Int → Int} {B : Int → Int → Int → Bool} {a b : En} {ps : List (Int × Int)} {most : Int} (hs : Same ps a.v b.v) (hN : Bd N)
    (ho : B a.v b.v 1 = true → B a.v b.v 0 = true → B a.v b.v 2 = true → N a.v b.v 2 ≤ N a.v b.v 1 + most) : Wd (toldE N B a b ps) most := by
  cases h : okE B a b ps
  · rw [told_bad h]; exact wd_wrong _
  · rw [told_ok h]
    obtain ⟨h0, _, _, hk⟩ := okE_iff.1 h
    rw [hs.ok, Bool.and_eq_true] at hk
    have := ho hk.1 h0 hk.2
    refine .inr ?_
    show _ ≤ highF N ps - lowF N ps ∧ highF N ps - lowF N ps ≤ most
    rw [hs.low hN, hs.high hN]
    have := hN a.v b.v 1
    have := hN a.v b.v 2
    omega
theorem wd_pt2 {N : Int → Int → Int → Int} {B : Int → Int → Int → Bool} {f : En → En → List (Int × Int)} {most : Int} (n m : Int) (p q : Bool) (hs : Same (f ⟨n, n, n, false⟩ ⟨m, m, m, false⟩) n m) (hN : Bd N)
    (ho : B n m 1 = true → B n m 0 = true → B n m 2 = true → N n m 2 ≤ N n m 1 + most) : Wd (toldE N B (ptE n p) (ptE m q) (f (ptE n p) (ptE m q))) most := by
  cases p
  · rw [pt_false, told_nofine (.inl wrong_nofine)]; exact wd_wrong _
  · cases q
    · rw [pt_false, told_nofine (.inr wrong_nofine)]; exact wd_wrong _
    · exact wd_told hs hN ho
theorem same_prs2 (n m : Int) : Same (prs2 ⟨n, n, n, false⟩ ⟨m, m, m, false⟩) n m := .inl rfl
theorem same_prsX (n m : Int) : Same (prsX ⟨n, n, n, false⟩ ⟨m, m, m, false⟩) n m := .inl rfl
theorem same_prs4 (n m : Int) : Same (prs4 ⟨n, n, n, false⟩ ⟨m, m, m, false⟩) n m := .inr rfl
theorem wd_add (n m : Int) (p q : Bool) : Wd (addE (ptE n p) (ptE m q)) 0 := wd_pt2 n m p q (same_prs2 n m) bdA fun _ _ _ => by unfold nA; omega
theorem wd_sub (n m : Int) (p q : Bool) : Wd (subE (ptE n p) (ptE m q)) 0 := wd_pt2 n m p q (same_prsX n m) bdS fun _ _ _ => by unfold nS; omega
theorem wd_neg (n : Int) (p : Bool) : Wd (negE (ptE n p)) 0 := wd_sub 0 n true p
theorem wd_mul (n m : Int) (p q : Bool) : Wd (mulE (ptE n p) (ptE m q)) 1 := wd_pt2 n m p q (same_prs4 n m) bdM fun h1 h0 h2 => (fm_order n m h1 h0 h2).2.2
theorem wd_div (n m : Int) (p q : Bool) : Wd (divE (ptE n p) (ptE m q)) 1 := by
  unfold divE
  split
  · exact wd_wrong _
  · exact wd_pt2 n m p q (same_prs4 n m) bdD fun h1 h0 h2 => (fd_order n m h1 h0 h2).2.2
theorem wd_root (n : Int) (p : Bool) : Wd (rootE (ptE n p)) 1 := by
  cases p
  · unfold rootE; rw [pt_false, told_nofine (.inl wrong_nofine)]; exact wd_wrong _
  · exact wd_told (same_prs2 n n) bdQ fun h1 h0 h2 => (fq_order n h1 h0 h2).2.2

/-- What is told is Bad, or Fine. -/
def FineOr (x : En) : Prop := x = wrongE ∨ (x.bad = false ∧ fineB x = true)
theorem fine_told {N : Int → Int → Int → Int} {B : Int → Int → Int → Bool} {a b : En} {ps : List (Int × Int)} (hN : Bd N)
    (hH : fineB a = true → fineB b = true → okF B ps = true → Hold N B ps a.v b.v) : FineOr (toldE N B a b ps) := by
  cases h : okE B a b ps
  · exact .inl (told_bad h)
  · rw [told_ok h]
    obtain ⟨h0, ha, hb, hk⟩ := okE_iff.1 h
    have H := hH ha hb hk
    have l := low_bd hN ps
    have u := high_bd hN ps
    have h1 := H.low
    have h2 := H.down
    have h3 := H.up
    have h4 := H.high
    exact .inr ⟨rfl, fineB_iff.2 ⟨rfl, Int.le_trans h1 h2, Int.le_trans h3 h4, frB_eq l, frB_eq u⟩⟩
theorem fine_add (a b : En) : FineOr (addE a b) := fine_told bdA fun ha hb hk => hold_add ha hb hk (in_v ha) (in_v hb)
theorem fine_sub (a b : En) : FineOr (subE a b) := fine_told bdS fun ha hb hk => hold_sub ha hb hk (in_v ha) (in_v hb)
theorem fineE_neg (a : En) : FineOr (negE a) := fine_sub _ a
theorem fine_mul (a b : En) : FineOr (mulE a b) := fine_told bdM fun ha hb hk => hold_mul ha hb hk (in_v ha) (in_v hb)
theorem fine_div (a b : En) : FineOr (divE a b) := by
  unfold divE
  cases hz : zeroB b
  · exact fine_told bdD fun ha hb hk => hold_div ha hb hz hk (in_v ha) (in_v hb)
  · exact .inl rfl
theorem fine_root (a : En) : FineOr (rootE a) := fine_told bdQ fun ha _ hk => hold_root ha hk (in_v ha)
theorem bad_nofine {a : En} (h : a.bad = true) : fineB a = false := by unfold fineB; rw [h]; rfl
theorem bad_add {a : En} (b : En) (h : a.bad = true) : addE a b = wrongE := told_nofine (.inl (bad_nofine h))
theorem bad_mul {a : En} (b : En) (h : a.bad = true) : mulE b a = wrongE := told_nofine (.inr (bad_nofine h))
theorem bad_root {a : En} (h : a.bad = true) : rootE a = wrongE := told_nofine (.inl (bad_nofine h))

/-- out is Bad, or it holds what 'inn' holds. -/
def With (inn out : En) : Prop := out.bad = true ∨ (inn.bad = false ∧ out.l ≤ inn.l ∧ inn.h ≤ out.h)
theorem with_told {N : Int → Int → Int → Int} {B : Int → Int → Int → Bool} {a b : En} {ps qs : List (Int × Int)} {x y : Int} (hN : Bd N) (hx : frB x = true) (hy : frB y = true) (hs : Same qs x y)
    (hH : fineB a = true → fineB b = true → okF B ps = true → Hold N B ps x y) : With (toldE N B ⟨x, x, x, false⟩ ⟨y, y, y, false⟩ qs) (toldE N B a b ps) := by
  cases h : okE B a b ps
  · rw [told_bad h]; exact .inl rfl
  · obtain ⟨h0, ha, hb, hk⟩ := okE_iff.1 h
    have H := hH ha hb hk
    have hq : okE B ⟨x, x, x, false⟩ ⟨y, y, y, false⟩ qs = true := okE_iff.2 ⟨H.told 0 (.inl rfl), pt_fine hx, pt_fine hy, by rw [hs.ok, H.told 1 (.inr (.inl rfl)), H.told 2 (.inr (.inr rfl))]; rfl⟩
    rw [told_ok h, told_ok hq]
    refine .inr ⟨rfl, ?_, ?_⟩
    · show lowF N ps ≤ lowF N qs
      rw [hs.low hN]; exact H.low
    · show highF N qs ≤ highF N ps
      rw [hs.high hN]; exact H.high
theorem with_add {a b : En} {x y : Int} (ha : fineB a = true) (hb : fineB b = true) (hx : inB a x) (hy : inB b y) : With (addE (ptE x true) (ptE y true)) (addE a b) :=
  with_told bdA (in_fr ha hx) (in_fr hb hy) (same_prs2 x y) fun ha hb hk => hold_add ha hb hk hx hy
theorem with_sub {a b : En} {x y : Int} (ha : fineB a = true) (hb : fineB b = true) (hx : inB a x) (hy : inB b y) : With (subE (ptE x true) (ptE y true)) (subE a b) :=
  with_told bdS (in_fr ha hx) (in_fr hb hy) (same_prsX x y) fun ha hb hk => hold_sub ha hb hk hx hy
theorem with_mul {a b : En} {x y : Int} (ha : fineB a = true) (hb : fineB b = true) (hx : inB a x) (hy : inB b y) : With (mulE (ptE x true) (ptE y true)) (mulE a b) :=
  with_told bdM (in_fr ha hx) (in_fr hb hy) (same_prs4 x y) fun ha hb hk => hold_mul ha hb hk hx hy
theorem with_div {a b : En} {x y : Int} (ha : fineB a = true) (hb : fineB b = true) (hx : inB a x) (hy : inB b y) : With (divE (ptE x true) (ptE y true)) (divE a b) := by
  unfold divE
  cases hz : zeroB b
  · have hz' : zeroB (ptE y true) = false := by
      unfold zeroB at hz ⊢
      unfold inB at hy
      rw [Bool.and_eq_false_iff] at hz ⊢
      rcases hz with h | h
      · left; have := of_decide_eq_false h; exact decide_eq_false (show ¬ y ≤ 0 by omega)
      · right; have := of_decide_eq_false h; exact decide_eq_false (show ¬ 0 ≤ y by omega)
    rw [hz']
    exact with_told bdD (in_fr ha hx) (in_fr hb hy) (same_prs4 x y) fun ha hb hk => hold_div ha hb hz hk hx hy
  · exact .inl rfl
theorem with_root {a : En} {x : Int} (ha : fineB a = true) (hx : inB a x) : With (rootE (ptE x true)) (rootE a) :=
  with_told bdQ (in_fr ha hx) (in_fr ha hx) (same_prs2 x x) fun ha _ hk => hold_root ha hk hx
theorem with_neg {a : En} {x : Int} (ha : fineB a = true) (hx : inB a x) : With (negE (ptE x true)) (negE a) :=
  with_sub (pt_fine (by decide)) ha ⟨Int.le_refl _, Int.le_refl _⟩ hx

theorem fa_comm (a b : Int) : faN a b = faN b a ∧ faB a b = faB b a := by
  have h : faB a b = faB b a := by unfold faB; rw [allB2, allB2, Int.add_comm, Bool.and_comm (frB a)]
  exact ⟨by unfold faN; rw [h, Int.add_comm], h⟩
theorem md_comm (a b c m : Int) : mdN a b c m = mdN b a c m ∧ mdB a b c m = mdB b a c m := by
  have hbel : belB a b c = belB b a c := by unfold belB; rw [Int.mul_comm a b]
  have hg : mdG a b c m = mdG b a c m := by unfold mdG; rw [Bool.and_comm (rightB a)]
  have hC : mdC a b c m = mdC b a c m := by unfold mdC; rw [Int.mul_comm (szI a), hbel]
  constructor
  · unfold mdN; rw [hg, hC, hbel]
  · unfold mdB; rw [hg, hC]
theorem fm_comm (a b m : Int) : fmN a b m = fmN b a m ∧ fmB a b m = fmB b a m := by
  have e := md_comm a b 16777216 m
  have h : fmB a b m = fmB b a m := by unfold fmB; rw [e.1, e.2, allB2, allB2, Bool.and_comm (frB a)]
  exact ⟨by unfold fmN; rw [h, e.1], h⟩
theorem ok_comm {B : Int → Int → Int → Bool} {a b : En} {ps qs : List (Int × Int)} (h : B a.v b.v 0 = B b.v a.v 0) (hk : okF B ps = okF B qs) : okE B a b ps = okE B b a qs := by
  unfold okE
  rw [h, hk]
  cases B b.v a.v 0 <;> cases fineB a <;> cases fineB b <;> rfl
theorem add_comm' (a b : En) : addE b a = addE a b := by
  unfold addE toldE
  have e : ∀ x y m, nA x y m = nA y x m := fun x y _ => (fa_comm x y).1
  have k : ∀ x y m, bA x y m = bA y x m := fun x y _ => (fa_comm x y).2
  have hl : lowF nA (prs2 b a) = lowF nA (prs2 a b) := by simp only [lowF, prs2, List.foldl_cons, List.foldl_nil, e b.l, e b.h]
  have hh : highF nA (prs2 b a) = highF nA (prs2 a b) := by simp only [highF, prs2, List.foldl_cons, List.foldl_nil, e b.l, e b.h]
  have ho : okE bA b a (prs2 b a) = okE bA a b (prs2 a b) := ok_comm (k _ _ _) (by simp only [okF, prs2, List.all_cons, List.all_nil, k b.l, k b.h])
  rw [ho, hl, hh, e b.v]
theorem mul_comm' (a b : En) : mulE b a = mulE a b := by
  unfold mulE toldE
  have e : ∀ x y m, fmN x y m = fmN y x m := fun x y m => (fm_comm x y m).1
  have k : ∀ x y m, fmB x y m = fmB y x m := fun x y m => (fm_comm x y m).2
  have hl : lowF fmN (prs4 b a) = lowF fmN (prs4 a b) := by
    simp only [lowF, prs4, List.foldl_cons, List.foldl_nil, e b.l, e b.h]; omega
  have hh : highF fmN (prs4 b a) = highF fmN (prs4 a b) := by
    simp only [highF, prs4, List.foldl_cons, List.foldl_nil, e b.l, e b.h]; omega
  have ho : okE fmB b a (prs4 b a) = okE fmB a b (prs4 a b) := ok_comm (k _ _ _) (by
    simp only [okF, prs4, List.all_cons, List.all_nil, k b.l, k b.h, Bool.and_true]
    ac_rfl)
  rw [ho, hl, hh, e b.v]
/-- What is taken off itself encloses 0. -/
theorem self_encl (a : En) : (subE a a).bad = true ∨ enclB (subE a a) 0 1 = true := by
  rcases fine_sub a a with h | ⟨h, hf⟩
  · left; rw [h]; rfl
  · right
    have hk : okE bS a a (prsX a a) = true := by
      cases k : okE bS a a (prsX a a)
      · have : subE a a = wrongE := told_bad k
        rw [this] at h; cases h
      · rfl
    obtain ⟨h0, ha, _, hk2⟩ := okE_iff.1 hk
    have H := hold_sub ha ha hk2 (in_v ha) (in_v ha)
    have v := (fs_val (show fsB a.v a.v = true from h0)).1
    have e : subE a a = ⟨nS a.v a.v 0, lowF nS (prsX a a), highF nS (prsX a a), false⟩ := told_ok hk
    have h1 : lowF nS (prsX a a) ≤ fsN a.v a.v := H.low
    have h2 : fsN a.v a.v ≤ highF nS (prsX a a) := H.high
    rw [v] at h1 h2
    unfold enclB withinB
    rw [hf, e]
    generalize lowF nS (prsX a a) = lo at *
    generalize highF nS (prsX a a) = hi at *
    have d1 : decide (lo * 1 ≤ 0 * 16777216) = true := decide_eq_true (by omega)
    have d2 : decide (0 * 16777216 ≤ hi * 1) = true := decide_eq_true (by omega)
    simp only [d1, d2]
    rfl
theorem self_meet {a : En} (h : fineB a = true) : meetB a a = true := by
  obtain ⟨h1, h2, h3, _, _⟩ := fineB_iff.1 h
  unfold meetB
  rw [h1, decide_eq_true (by omega)]; rfl
end Go.Proofs.YtlbmkjicbkfmjaaGreat

/- Enclosed numbers, of fractions of whole numbers: what is told of enclosed numbers encloses what is told of the fractions that they enclose. Mathematics alone. -/
namespace Go.Proofs.YtlbmkjicbkfmjaaGreat
open Go.RowKit
set_option linter.unusedSimpArgs false
set_option linter.unusedVariables false

/-- n by d (d above 0) lies between the bounds. -/
def QIn (a : En) (n d : Int) : Prop := a.l * d ≤ n * 16777216 ∧ n * 16777216 ≤ a.h * d
/-- It is Bad, or it may be, and encloses n by d. -/
def Enq (a : En) (n d : Int) : Prop := a = wrongE ∨ (fineB a = true ∧ QIn a n d)
theorem cancel_pos {x y k : Int} (hk : 0 < k) (h : x * k ≤ y * k) : x ≤ y := Int.le_of_mul_le_mul_right h hk
/-- The same fraction, by other parts. -/
theorem QIn.same {a : En} {n d n' d' : Int} (h : QIn a n d) (hd : 0 < d) (hd' : 0 < d') (e : n * d' = n' * d) : QIn a n' d' := by
  obtain ⟨h1, h2⟩ := h
  constructor
  · refine cancel_pos hd ?_
    have := Int.mul_le_mul_of_nonneg_right h1 (Int.le_of_lt hd')
    rw [show a.l * d' * d = a.l * d * d' by rw [Int.mul_right_comm], show n' * 16777216 * d = n * 16777216 * d' by rw [Int.mul_right_comm, ← e, Int.mul_right_comm]]
    exact this
  · refine cancel_pos hd ?_
    have := Int.mul_le_mul_of_nonneg_right h2 (Int.le_of_lt hd')
    rw [show a.h * d' * d = a.h * d * d' by rw [Int.mul_right_comm], show n' * 16777216 * d = n * 16777216 * d' by rw [Int.mul_right_comm, ← e, Int.mul_right_comm]]
    exact this
theorem Enq.same {a : En} {n d n' d' : Int} (h : Enq a n d) (hd : 0 < d) (hd' : 0 < d') (e : n * d' = n' * d) : Enq a n' d' := by
  rcases h with h | ⟨f, q⟩
  · exact .inl h
  · exact .inr ⟨f, q.same hd hd' e⟩
theorem wrong_fine {a : En} (h : a = wrongE) : fineB a = false := by subst h; rfl
theorem told_wrong {N : Int → Int → Int → Int} {B : Int → Int → Int → Bool} {a b : En} {ps : List (Int × Int)} (h : a = wrongE ∨ b = wrongE) : toldE N B a b ps = wrongE := by
  refine told_bad ?_
  unfold okE
  rcases h with h | h
  · rw [wrong_fine h]; simp
  · rw [wrong_fine h]; simp
/-- What is told of two, by what holds of the bounds. -/
theorem enq_told {N : Int → Int → Int → Int} {B : Int → Int → Int → Bool} {a b : En} {ps : List (Int × Int)} {n d : Int} (hf : FineOr (toldE N B a b ps)) (h : fineB a = true → fineB b = true → okF B ps = true → lowF N ps * d ≤ n * 16777216 ∧ n * 16777216 ≤ highF N ps * d) : Enq (toldE N B a b ps) n d := by
  rcases hf with hf | ⟨_, hf⟩
  · exact .inl hf
  · cases hk : okE B a b ps
    · exact .inl (told_bad hk)
    · obtain ⟨h0, ha, hb, ho⟩ := okE_iff.1 hk
      have q := h ha hb ho
      refine .inr ⟨hf, ?_⟩
      rw [told_ok hk]
      exact q
theorem enq_add {a b : En} {n1 d1 n2 d2 : Int} (hd1 : 0 < d1) (hd2 : 0 < d2) (ha : Enq a n1 d1) (hb : Enq b n2 d2) : Enq (addE a b) (n1 * d2 + n2 * d1) (d1 * d2) := by
  rcases ha with ha | ⟨fa, qa⟩
  · exact .inl (told_wrong (.inl ha))
  rcases hb with hb | ⟨fb, qb⟩
  · exact .inl (told_wrong (.inr hb))
  refine enq_told (fine_add a b) fun _ _ ho => ?_
  have m1 : (a.l, b.l) ∈ prs2 a b := by simp [prs2]
  have m2 : (a.h, b.h) ∈ prs2 a b := by simp [prs2]
  have l1 := low_le (N := nA) m1
  have l2 := le_high (N := nA) m2
  simp only [nA] at l1 l2
  rw [(fa_val (ok_at ho m1).1).1] at l1
  rw [(fa_val (ok_at ho m2).2).1] at l2
  have hdd : 0 < d1 * d2 := Int.mul_pos hd1 hd2
  have p1 := Int.mul_le_mul_of_nonneg_right qa.1 (Int.le_of_lt hd2)
  have p2 := Int.mul_le_mul_of_nonneg_right qb.1 (Int.le_of_lt hd1)
  have p3 := Int.mul_le_mul_of_nonneg_right qa.2 (Int.le_of_lt hd2)
  have p4 := Int.mul_le_mul_of_nonneg_right qb.2 (Int.le_of_lt hd1)
  have g1 := Int.mul_le_mul_of_nonneg_right l1 (Int.le_of_lt hdd)
  have g2 := Int.mul_le_mul_of_nonneg_right l2 (Int.le_of_lt hdd)
  rw [show (a.l + b.l) * (d1 * d2) = a.l * d1 * d2 + b.l * d2 * d1 by rw [Int.add_mul, Int.mul_assoc, Int.mul_assoc, Int.mul_comm d2 d1]] at g1
  rw [show (a.h + b.h) * (d1 * d2) = a.h * d1 * d2 + b.h * d2 * d1 by rw [Int.add_mul, Int.mul_assoc, Int.mul_assoc, Int.mul_comm d2 d1]] at g2
  rw [show (n1 * d2 + n2 * d1) * 16777216 = n1 * 16777216 * d2 + n2 * 16777216 * d1 by rw [Int.add_mul, Int.mul_right_comm n1, Int.mul_right_comm n2]]
  constructor <;> omega
theorem enq_sub {a b : En} {n1 d1 n2 d2 : Int} (hd1 : 0 < d1) (hd2 : 0 < d2) (ha : Enq a n1 d1) (hb : Enq b n2 d2) : Enq (subE a b) (n1 * d2 - n2 * d1) (d1 * d2) := by
  rcases ha with ha | ⟨fa, qa⟩
  · exact .inl (told_wrong (.inl ha))
  rcases hb with hb | ⟨fb, qb⟩
  · exact .inl (told_wrong (.inr hb))
  refine enq_told (fine_sub a b) fun _ _ ho => ?_
  have m1 : (a.l, b.h) ∈ prsX a b := by simp [prsX]
  have m2 : (a.h, b.l) ∈ prsX a b := by simp [prsX]
  have l1 := low_le (N := nS) m1
  have l2 := le_high (N := nS) m2
  simp only [nS] at l1 l2
  rw [(fs_val (ok_at ho m1).1).1] at l1
  rw [(fs_val (ok_at ho m2).2).1] at l2
  have hdd : 0 < d1 * d2 := Int.mul_pos hd1 hd2
  have p1 := Int.mul_le_mul_of_nonneg_right qa.1 (Int.le_of_lt hd2)
  have p2 := Int.mul_le_mul_of_nonneg_right qb.1 (Int.le_of_lt hd1)
  have p3 := Int.mul_le_mul_of_nonneg_right qa.2 (Int.le_of_lt hd2)
  have p4 := Int.mul_le_mul_of_nonneg_right qb.2 (Int.le_of_lt hd1)
  have g1 := Int.mul_le_mul_of_nonneg_right l1 (Int.le_of_lt hdd)
  have g2 := Int.mul_le_mul_of_nonneg_right l2 (Int.le_of_lt hdd)
  rw [show (a.l - b.h) * (d1 * d2) = a.l * d1 * d2 - b.h * d2 * d1 by rw [Int.sub_mul, Int.mul_assoc, Int.mul_assoc, Int.mul_comm d2 d1]] at g1
  rw [show (a.h - b.l) * (d1 * d2) = a.h * d1 * d2 - b.l * d2 * d1 by rw [Int.sub_mul, Int.mul_assoc, Int.mul_assoc, Int.mul_comm d2 d1]] at g2
  rw [show (n1 * d2 - n2 * d1) * 16777216 = n1 * 16777216 * d2 - n2 * 16777216 * d1 by rw [Int.sub_mul, Int.mul_right_comm n1, Int.mul_right_comm n2]]
  constructor <;> omega
/-- The bounds of a, so many times as great. -/
def sclE (a : En) (d : Int) : En := ⟨0, a.l * d, a.h * d, false⟩
theorem scl_mem {a b : En} {d1 d2 : Int} {p : Int × Int} (h : p ∈ prs4 (sclE a d1) (sclE b d2)) : ∃ q ∈ prs4 a b, p = (q.1 * d1, q.2 * d2) := by
  simp only [prs4, sclE, List.mem_cons, List.not_mem_nil, or_false] at h
  rcases h with h | h | h | h
  · exact ⟨(a.l, b.l), by simp [prs4], h⟩
  · exact ⟨(a.l, b.h), by simp [prs4], h⟩
  · exact ⟨(a.h, b.l), by simp [prs4], h⟩
  · exact ⟨(a.h, b.h), by simp [prs4], h⟩
theorem down_le (x c : Int) (hc : 0 < c) : rnd x c 1 * c ≤ x := by rw [rnd_down]; exact Int.ediv_mul_le x (by omega)
theorem le_up (x c : Int) (hc : 0 < c) : x ≤ rnd x c 2 * c := by
  rw [rnd_up, Int.neg_mul]
  have := Int.ediv_mul_le (-x) (show c ≠ 0 by omega)
  omega
theorem enq_mul {a b : En} {n1 d1 n2 d2 : Int} (hd1 : 0 < d1) (hd2 : 0 < d2) (ha : Enq a n1 d1) (hb : Enq b n2 d2) : Enq (mulE a b) (n1 * n2) (d1 * d2) := by
  rcases ha with ha | ⟨fa, qa⟩
  · exact .inl (told_wrong (.inl ha))
  rcases hb with hb | ⟨fb, qb⟩
  · exact .inl (told_wrong (.inr hb))
  refine enq_told (fine_mul a b) fun _ _ ho => ?_
  have hdd : 0 < d1 * d2 := Int.mul_pos hd1 hd2
  obtain ⟨⟨p, mp, kp⟩, ⟨q, mq, kq⟩⟩ := corners (a := sclE a d1) (b := sclE b d2) (x := n1 * 16777216) (y := n2 * 16777216) ⟨qa.1, qa.2⟩ ⟨qb.1, qb.2⟩
  obtain ⟨p, mp', rfl⟩ := scl_mem mp
  obtain ⟨q, mq', rfl⟩ := scl_mem mq
  dsimp only at kp kq
  have vp := fm_inv (ok_at ho mp').1
  have vq := fm_inv (ok_at ho mq').2
  have l1 := low_le (N := fmN) mp'
  have l2 := le_high (N := fmN) mq'
  rw [vp.2.2.1] at l1
  rw [vq.2.2.1] at l2
  have r1 := down_le (p.1 * p.2) 16777216 (by decide)
  have r2 := le_up (q.1 * q.2) 16777216 (by decide)
  have e : n1 * 16777216 * (n2 * 16777216) = n1 * n2 * 16777216 * 16777216 := by rw [Int.mul_assoc n1, Int.mul_left_comm 16777216 n2, ← Int.mul_assoc, Int.mul_assoc (n1 * n2)]
  rw [e, show p.1 * d1 * (p.2 * d2) = p.1 * p.2 * (d1 * d2) by rw [Int.mul_assoc, Int.mul_left_comm d1, ← Int.mul_assoc]] at kp
  rw [e, show q.1 * d1 * (q.2 * d2) = q.1 * q.2 * (d1 * d2) by rw [Int.mul_assoc, Int.mul_left_comm d1, ← Int.mul_assoc]] at kq
  constructor
  · refine cancel_pos (k := 16777216) (by decide) ?_
    have g1 := Int.mul_le_mul_of_nonneg_right (Int.le_trans (Int.mul_le_mul_of_nonneg_right l1 (show (0 : Int) ≤ 16777216 by decide)) r1) (Int.le_of_lt hdd)
    rw [Int.mul_right_comm]
    exact Int.le_trans g1 kp
  · refine cancel_pos (k := 16777216) (by decide) ?_
    have g2 := Int.mul_le_mul_of_nonneg_right (Int.le_trans r2 (Int.mul_le_mul_of_nonneg_right l2 (show (0 : Int) ≤ 16777216 by decide))) (Int.le_of_lt hdd)
    rw [Int.mul_right_comm (highF fmN (prs4 a b))]
    exact Int.le_trans kq g2
theorem szI_scl {x d : Int} (hd : 0 < d) : szI (x * d) = szI x * d := by
  unfold szI
  by_cases h : x < 0
  · have : x * d < 0 := Int.mul_neg_of_neg_of_pos h hd
    rw [if_pos this, if_pos h, Int.neg_mul]
  · have : ¬ x * d < 0 := by have := Int.mul_nonneg (show 0 ≤ x by omega) (Int.le_of_lt hd); omega
    rw [if_neg this, if_neg h]
theorem qn_mul {x y d e : Int} (he : 0 < e) : qn (x * d) (y * e) = qn x y * d := by
  unfold qn
  by_cases h : y < 0
  · have : y * e < 0 := Int.mul_neg_of_neg_of_pos h he
    rw [if_pos this, if_pos h]
    simp only [Int.neg_mul]
    rw [Int.mul_right_comm]
  · have : ¬ y * e < 0 := by have := Int.mul_nonneg (show 0 ≤ y by omega) (Int.le_of_lt he); omega
    rw [if_neg this, if_neg h, Int.mul_right_comm]
/-- The sign. -/
def sgI (x : Int) : Int := if x < 0 then -1 else 1
theorem qn_sg (x y : Int) : qn x y = x * sgI y * 16777216 := by
  unfold qn sgI
  split
  · rw [Int.mul_neg, Int.mul_one]
  · rw [Int.mul_one]
/-- A quotient: by the parts. -/
theorem enq_div {a b : En} {n1 d1 n2 d2 : Int} (hd1 : 0 < d1) (hd2 : 0 < d2) (ha : Enq a n1 d1) (hb : Enq b n2 d2) : Enq (divE a b) (n1 * sgI n2 * d2) (d1 * szI n2) := by
  unfold divE
  cases hz : zeroB b
  · rw [if_neg (by simp)]
    rcases ha with ha | ⟨fa, qa⟩
    · exact .inl (told_wrong (.inl ha))
    rcases hb with hb | ⟨fb, qb⟩
    · exact .inl (told_wrong (.inr hb))
    have hfd : FineOr (toldE fdN fdB a b (prs4 a b)) := by
      have := fine_div a b
      unfold divE at this
      rw [hz, if_neg (by simp)] at this
      exact this
    refine enq_told hfd fun _ _ ho => ?_
    have hz' : zeroB (sclE b d2) = false := by
      unfold zeroB at hz ⊢
      rw [Bool.and_eq_false_iff] at hz ⊢
      rcases hz with h | h
      · refine .inl (decide_eq_false fun k => ?_)
        have h' := of_decide_eq_false h
        have : 0 < b.l * d2 := Int.mul_pos (by omega) hd2
        have k' : b.l * d2 ≤ 0 := k
        omega
      · refine .inr (decide_eq_false fun k => ?_)
        have h' := of_decide_eq_false h
        have : b.h * d2 < 0 := Int.mul_neg_of_neg_of_pos (by omega) hd2
        have k' : 0 ≤ b.h * d2 := k
        omega
    obtain ⟨⟨p, mp, kp⟩, ⟨q, mq, kq⟩⟩ := qcorners (a := sclE a d1) (b := sclE b d2) (x := n1 * 16777216) (y := n2 * 16777216) hz' ⟨qa.1, qa.2⟩ ⟨qb.1, qb.2⟩
    obtain ⟨p, mp', rfl⟩ := scl_mem mp
    obtain ⟨q, mq', rfl⟩ := scl_mem mq
    dsimp only at kp kq
    have vp := fd_inv (ok_at ho mp').1
    have vq := fd_inv (ok_at ho mq').2
    have l1 := low_le (N := fdN) mp'
    have l2 := le_high (N := fdN) mq'
    rw [vp.2.2.2.1] at l1
    rw [vq.2.2.2.1] at l2
    have sp := szI_pp vp.2.2.1
    have sq := szI_pp vq.2.2.1
    have r1 := down_le (qn p.1 p.2) (szI p.2) sp
    have r2 := le_up (qn q.1 q.2) (szI q.2) sq
    have hU : (0 : Int) < 16777216 := by decide
    rw [qn_mul hd2, szI_scl hU, qn_mul hU, szI_scl hd2, qn_sg n1 n2] at kp kq
    have n20 : n2 ≠ 0 := by
      intro e
      subst e
      have h1 := qb.1
      have h2 := qb.2
      unfold zeroB at hz
      rw [Bool.and_eq_false_iff] at hz
      rcases hz with h | h
      · have h' := of_decide_eq_false h
        have : 0 < b.l * d2 := Int.mul_pos (by omega) hd2
        omega
      · have h' := of_decide_eq_false h
        have : b.h * d2 < 0 := Int.mul_neg_of_neg_of_pos (by omega) hd2
        omega
    have sn := szI_pp n20
    have hdn : 0 < d1 * szI n2 := Int.mul_pos hd1 sn
    generalize n1 * sgI n2 = m at *
    generalize szI n2 = t at *
    generalize hP : qn p.1 p.2 = P at *
    generalize hQ : qn q.1 q.2 = Q at *
    generalize szI p.2 = u at *
    generalize szI q.2 = v at *
    constructor
    · refine cancel_pos sp ?_
      refine cancel_pos hU ?_
      have g1 := Int.mul_le_mul_of_nonneg_right (Int.le_trans (Int.mul_le_mul_of_nonneg_right l1 (Int.le_of_lt sp)) r1) (Int.le_of_lt hdn)
      have g2 := Int.mul_le_mul_of_nonneg_right g1 (Int.le_of_lt hU)
      refine Int.le_trans (Int.le_of_eq ?_) (Int.le_trans g2 (Int.le_trans (Int.le_of_eq ?_) (Int.le_trans kp (Int.le_of_eq ?_))))
      · ac_rfl
      · ac_rfl
      · ac_rfl
    · refine cancel_pos sq ?_
      refine cancel_pos hU ?_
      have g1 := Int.mul_le_mul_of_nonneg_right (Int.le_trans r2 (Int.mul_le_mul_of_nonneg_right l2 (Int.le_of_lt sq))) (Int.le_of_lt hdn)
      have g2 := Int.mul_le_mul_of_nonneg_right g1 (Int.le_of_lt hU)
      refine Int.le_trans (Int.le_of_eq ?_) (Int.le_trans kq (Int.le_trans (Int.le_of_eq ?_) (Int.le_trans g2 (Int.le_of_eq ?_))))
      · ac_rfl
      · ac_rfl
      · ac_rfl
  · rw [if_pos rfl]
    exact .inl rfl
theorem sq_le {x y : Int} (hx : 0 ≤ x) (hy : 0 ≤ y) (h : x * x ≤ y * y) : x ≤ y := by
  rcases Int.lt_or_le y x with k | k
  · have h1 : y * x < x * x := Int.mul_lt_mul_of_pos_right k (by omega)
    have h2 : y * y ≤ y * x := Int.mul_le_mul_of_nonneg_left (by omega) hy
    omega
  · exact k
/-- A root: m by e, whose square is what is enclosed. -/
theorem enq_root {a : En} {n d m e : Int} (hd : 0 < d) (he : 0 < e) (hm : 0 ≤ m) (ha : Enq a n d) (h : n * (e * e) = m * m * d) : Enq (rootE a) m e := by
  rcases ha with ha | ⟨fa, qa⟩
  · exact .inl (told_wrong (.inl ha))
  refine enq_told (fine_root a) fun _ _ ho => ?_
  have hee : 0 < e * e := Int.mul_pos he he
  have qq := qa.same hd hee h
  have m1 : (a.l, a.l) ∈ prs2 a a := by simp [prs2]
  have m2 : (a.h, a.h) ∈ prs2 a a := by simp [prs2]
  have v1 := (ok_at ho m1).1
  have v2 := (ok_at ho m2).2
  have l1 := low_le (N := nQ) m1
  have l2 := le_high (N := nQ) m2
  simp only [bQ, nQ] at v1 v2 l1 l2
  have k1 := fqB_ok v1
  have k2 := fqB_ok v2
  obtain ⟨r, t, _, r0, _, t0, _, ea, ht, x1, _, _⟩ := fq_vals a.l k1.1 k1.2.1
  obtain ⟨r', t', _, r0', _, t0', _, ea', ht', _, x2, _⟩ := fq_vals a.h k2.1 k2.2.1
  rw [x1.1] at l1
  rw [x2.1] at l2
  obtain ⟨s, hs⟩ : ∃ s, s = upI r' (decide (0 < t')) := ⟨_, rfl⟩
  rw [← hs] at l2
  have hss : a.h * 16777216 ≤ s * s ∧ 0 ≤ s := by
    rw [hs, ea']
    unfold upI
    by_cases k : 0 < t'
    · simp only [decide_eq_true k, if_true]
      rw [Int.add_mul, Int.mul_add, Int.mul_one, Int.one_mul]
      exact ⟨by omega, by omega⟩
    · simp only [decide_eq_false k]
      exact ⟨by simp; omega, by simpa using r0'⟩
  have hU : (0 : Int) < 16777216 := by decide
  have sqU : m * 16777216 * (m * 16777216) = m * m * 16777216 * 16777216 := by ac_rfl
  constructor
  · refine Int.le_trans (Int.mul_le_mul_of_nonneg_right l1 (Int.le_of_lt he)) (sq_le (Int.mul_nonneg r0 (Int.le_of_lt he)) (Int.mul_nonneg hm (by decide)) ?_)
    have g1 := Int.mul_le_mul_of_nonneg_right (show r * r ≤ a.l * 16777216 by omega) (Int.le_of_lt hee)
    have g2 := Int.mul_le_mul_of_nonneg_right qq.1 (Int.le_of_lt hU)
    rw [sqU]
    refine Int.le_trans (Int.le_of_eq ?_) (Int.le_trans g1 (Int.le_trans (Int.le_of_eq ?_) g2))
    · ac_rfl
    · ac_rfl
  · refine Int.le_trans (sq_le (Int.mul_nonneg hm (by decide)) (Int.mul_nonneg hss.2 (Int.le_of_lt he)) ?_) (Int.mul_le_mul_of_nonneg_right l2 (Int.le_of_lt he))
    have g1 := Int.mul_le_mul_of_nonneg_right hss.1 (Int.le_of_lt hee)
    have g2 := Int.mul_le_mul_of_nonneg_right qq.2 (Int.le_of_lt hU)
    rw [sqU]
    refine Int.le_trans g2 (Int.le_trans (Int.le_of_eq ?_) (Int.le_trans g1 (Int.le_of_eq ?_)))
    · ac_rfl
    · ac_rfl
/-- A point encloses what it is. -/
theorem enq_pt {x n d : Int} (hx : frB x = true) (e : x * d = n * 16777216) : Enq (ptE x true) n d :=
  .inr ⟨pt_fine hx, Int.le_of_eq e, Int.le_of_eq e.symm⟩
theorem Enq.encl {a : En} {n d : Int} (h : Enq a n d) (hb : a.bad = false) (h1 : 1 ≤ d) : fineB a = true ∧ decide (1 ≤ d) = true ∧ a.l * d ≤ n * 16777216 ∧ n * 16777216 ≤ a.h * d := by
  rcases h with rfl | ⟨f, q⟩
  · cases hb
  · exact ⟨f, decide_eq_true h1, q.1, q.2⟩
end Go.Proofs.YtlbmkjicbkfmjaaGreat
