/- What the document fixes of some fractions: awake (layer 4). -/
import Derived.Test.YtoibkkiohpnaaaaFr6
import Derived.Test.YtoibkkiohpnaaaaFr7
namespace Go.Proofs.Ytoibkkiohpnaaaa
open Go.RowKit
set_option linter.unusedSimpArgs false
set_option linter.unusedVariables false

theorem newR_pos (n d : Int) (hn : gvB n = true) (hd : gvB d = true) (h : 0 < d) (g : Int) (hg : (Int.gcd n d : Int) = g) (h2 : smB (n.tdiv g) = true) (h3 : smB (d.tdiv g) = true) : newR n d = ⟨n.tdiv g, d.tdiv g, false⟩ := by
  unfold newR
  rw [hn, hd, lowR_pos n d h g hg.symm, h2, h3]
  rfl
theorem new24 : newR 2 (-4) = ⟨-1, 2, false⟩ := by
  unfold newR
  rw [lowR_neg 2 (-4) (by decide)]
  exact newR_pos (-2) 4 (by decide) (by decide) (by decide) 2 (by decide) (by decide) (by decide)
theorem new49 : newR 4 9 = ⟨4, 9, false⟩ := newR_pos 4 9 (by decide) (by decide) (by decide) 1 (by decide) (by decide) (by decide)
theorem new12 : newR 1 2 = ⟨1, 2, false⟩ := newR_pos 1 2 (by decide) (by decide) (by decide) 1 (by decide) (by decide) (by decide)
theorem new13 : newR 1 3 = ⟨1, 3, false⟩ := newR_pos 1 3 (by decide) (by decide) (by decide) 1 (by decide) (by decide) (by decide)
theorem newm12 : newR (-1) 2 = ⟨-1, 2, false⟩ := newR_pos (-1) 2 (by decide) (by decide) (by decide) 1 (by decide) (by decide) (by decide)
theorem add56 : addR ⟨1, 2, false⟩ ⟨1, 3, false⟩ = ⟨5, 6, false⟩ := by
  rw [← addX_eq]
  exact (lowR_pos 5 6 (by decide) 1 (by decide)).trans rfl
theorem mul49 : mulR ⟨2, 3, false⟩ ⟨2, 3, false⟩ = ⟨4, 9, false⟩ := by
  rw [← mulX_eq]
  exact (lowR_pos 4 9 (by decide) 1 (by decide)).trans rfl
theorem rt4 : flR 4 = 2 := by unfold flR; rw [if_neg (by decide)]; exact (root_one 4 2 (by decide) (by decide) (by decide)).symm
theorem rt9 : flR 9 = 3 := by unfold flR; rw [if_neg (by decide)]; exact (root_one 9 3 (by decide) (by decide) (by decide)).symm
theorem root49 : rootR ⟨4, 9, false⟩ = ⟨2, 3, false⟩ := by
  have t : tryR ⟨4, 9, false⟩ = ⟨2, 3, false⟩ := by unfold tryR; rw [rt4, rt9]
  unfold rootR
  rw [t, mul49]
  rfl
theorem sg12 : signR ⟨-1, 2, false⟩ = -1 := rfl
theorem fn12 : fineR ⟨1, 2, false⟩ = true := rfl

theorem field_badR (x y b : Value) (w : World) : (Instr.field 23 (.agg #[x, y, b]) 2).run Try.prog w = .ok b w := by kernel_rfl
theorem awake4_any (w : World) : Calls Try.prog 12 #[] w fun e w' => e = .returned (.bool true) ∧ Bl w w' := by
  have N1 := new_any 2 (-4)
  have N2 := new_any 4 9
  have N3 := new_any 1 2
  have N4 := new_any 1 3
  have N5 := new_any (-1) 2
  rw [new24] at N1
  rw [new49] at N2
  rw [new12] at N3
  rw [new13] at N4
  rw [newm12] at N5
  have R := rroot_any ⟨4, 9, false⟩
  rw [root49] at R
  have A := radd_any ⟨1, 2, false⟩ ⟨1, 3, false⟩
  rw [add56] at A
  have S := rsign_any ⟨-1, 2, false⟩
  rw [sg12] at S
  have F := fineR_any ⟨1, 2, false⟩
  rw [fn12] at F
  have WR : ∀ w, Calls Try.prog 11 #[] w fun e w' => e = .returned (.agg #[.int .i64 0, .int .i64 0, .bool true]) ∧ Bl w w' := fun w => wrongR_any w
  have WR := hideP WR
  have fb := field_badR (.int .i64 0) (.int .i64 0) (.bool true)
  have EG := Try.frGuard
  have E1 : ∀ w, (binOp .eql 23 (.agg #[.int .i64 (-1), .int .i64 2, .bool false]) (.agg #[.int .i64 (-1), .int .i64 2, .bool false])).run Try.prog w = .ok (.bool true) w := eql_fr ⟨-1, 2, false⟩ ⟨-1, 2, false⟩
  have E2 : ∀ w, (binOp .eql 23 (.agg #[.int .i64 2, .int .i64 3, .bool false]) (.agg #[.int .i64 2, .int .i64 3, .bool false])).run Try.prog w = .ok (.bool true) w := eql_fr ⟨2, 3, false⟩ ⟨2, 3, false⟩
  have E3 : ∀ w, (binOp .eql 23 (.agg #[.int .i64 5, .int .i64 6, .bool false]) (.agg #[.int .i64 5, .int .i64 6, .bool false])).run Try.prog w = .ok (.bool true) w := eql_fr ⟨5, 6, false⟩ ⟨5, 6, false⟩
  have N1 := hideP N1
  have N2 := hideP N2
  have N3 := hideP N3
  have N4 := hideP N4
  have N5 := hideP N5
  have R := hideP R
  have A := hideP A
  have S := hideP S
  have F := hideP F
  go_enter Try.func12, Try.ntmps12
  go_wp2_with fail
  refine (N1.out _).mono ?_
  rintro e w1 ⟨rfl, h1⟩
  go_wp2_with fail
  refine (N2.out _).mono ?_
  rintro e w2 ⟨rfl, h2⟩
  go_wp2_with fail
  refine (R.out _).mono ?_
  rintro e w3 ⟨rfl, h3⟩
  go_wp2_with fail
  refine (N3.out _).mono ?_
  rintro e w4 ⟨rfl, h4⟩
  go_wp2_with fail
  refine (N4.out _).mono ?_
  rintro e w5 ⟨rfl, h5⟩
  go_wp2_with fail
  refine (A.out _).mono ?_
  rintro e w6 ⟨rfl, h6⟩
  go_wp2_with fail
  refine (WR.out _).mono ?_
  rintro e w7 ⟨rfl, h7⟩
  go_wp2_with fail
  refine (N3.out _).mono ?_
  rintro e w8 ⟨rfl, h8⟩
  go_wp2_with fail
  refine (F.out _).mono ?_
  rintro e w9 ⟨rfl, h9⟩
  go_wp2_with fail
  refine (N5.out _).mono ?_
  rintro e w10 ⟨rfl, h10⟩
  go_wp2_with fail
  refine (S.out _).mono ?_
  rintro e w11 ⟨rfl, h11⟩
  go_wp2
  go_ret
  exact ⟨rfl, ((((((((((h1.trans h2).trans h3).trans h4).trans h5).trans h6).trans h7).trans h8).trans h9).trans h10).trans h11)⟩
end Go.Proofs.Ytoibkkiohpnaaaa
