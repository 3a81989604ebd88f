/- Contracts of fx.Of, Add, Sub, Mul, Div, Root, and of the document's Mul, Div, Root (layer 2). -/
import Derived.Test.YtljmggemdkfbiaaGreatFx1
import Derived.Test.YtljmggemdkfbiaaGreatLawG
import Derived.Test.YtljmggemdkfbiaaGreatRefR
namespace Go.Proofs.YtljmggemdkfbiaaGreat
open Go.RowKit
set_option linter.unusedSimpArgs false
set_option linter.unusedVariables false

theorem allB2 (a b : Int) : allB [a, b] = (frB a && frB b) := by simp [allB]
theorem allB1 (a : Int) : allB [a] = frB a := by simp [allB]
/-- Is a product told (P2.1), and which is it? -/
def fmB (a b m : Int) : Bool := mdB a b 16777216 m && frB (mdN a b 16777216 m) && allB [a, b]
def fmN (a b m : Int) : Int := toN (mdN a b 16777216 m) (fmB a b m)
/-- A quotient. -/
def fdB (a b m : Int) : Bool := mdB a 16777216 b m && frB (mdN a 16777216 b m) && allB [a, b]
def fdN (a b m : Int) : Int := toN (mdN a 16777216 b m) (fdB a b m)
/-- A root. -/
def fqB (a m : Int) : Bool := rtB a 16777216 m && frB (rtN a 16777216 m) && allB [a]
def fqN (a m : Int) : Int := toN (rtN a 16777216 m) (fqB a m)
/-- A sum, a difference. -/
def faB (a b : Int) : Bool := frB (a + b) && allB [a, b]
def faN (a b : Int) : Int := toN (a + b) (faB a b)
def fsB (a b : Int) : Bool := frB (a - b) && allB [a, b]
def fsN (a b : Int) : Int := toN (a - b) (fsB a b)

theorem two_cells (w : World) (a b : Int) (t : TypeId) : ∀ k, k < [a, b].length → (w.alloc (.cells #[.int .i64 a, .int .i64 b] t)).cell? ⟨w.heap.size, 0 + k, none⟩ = some (.int .i64 ([a, b].getD k 0)) := by
  intro k hk
  rcases (by simp at hk; omega : k = 0 ∨ k = 1) with rfl | rfl <;> simp [go_sem]
theorem one_cell (w : World) (a : Int) (t : TypeId) : ∀ k, k < [a].length → (w.alloc (.cells #[.int .i64 a] t)).cell? ⟨w.heap.size, 0 + k, none⟩ = some (.int .i64 ([a].getD k 0)) := by
  intro k hk
  obtain rfl : k = 0 := by simp at hk; omega
  simp [go_sem]

theorem fmul_any (a b m : Int) (w : World) :
    Calls Tryz.prog 215 #[.int .i64 a, .int .i64 b, .int .i64 m] w fun e w' => e = .returned (.tuple #[.int .i64 (fmN a b m), .bool (fmB a b m)]) ∧ Bl w w' := by
  unfold fmN fmB
  have M := mulDiv_any a b 16777216 m
  generalize mdN a b 16777216 m = x at *
  generalize mdB a b 16777216 m = xb at *
  have HM := hideP M
  clear M
  go_enter Tryz.func215, Tryz.ntmps215
  go_wp2_with fail
  refine (HM.out _).mono ?_
  rintro e w1 ⟨rfl, h1⟩
  go_wp2_with fail
  refine (told_any x xb _ 0 [a, b] _ (by simp) (two_cells _ _ _ _)).mono ?_
  rintro e w2 ⟨rfl, rfl⟩
  go_wp2
  go_ret2
  exact ⟨rfl, h1.alloc _⟩

theorem fdiv_any (a b m : Int) (w : World) :
    Calls Tryz.prog 213 #[.int .i64 a, .int .i64 b, .int .i64 m] w fun e w' => e = .returned (.tuple #[.int .i64 (fdN a b m), .bool (fdB a b m)]) ∧ Bl w w' := by
  unfold fdN fdB
  have M := mulDiv_any a 16777216 b m
  generalize mdN a 16777216 b m = x at *
  generalize mdB a 16777216 b m = xb at *
  have HM := hideP M
  clear M
  go_enter Tryz.func213, Tryz.ntmps213
  go_wp2_with fail
  refine (HM.out _).mono ?_
  rintro e w1 ⟨rfl, h1⟩
  go_wp2_with fail
  refine (told_any x xb _ 0 [a, b] _ (by simp) (two_cells _ _ _ _)).mono ?_
  rintro e w2 ⟨rfl, rfl⟩
  go_wp2
  go_ret2
  exact ⟨rfl, h1.alloc _⟩

theorem froot_any (a m : Int) (w : World) :
    Calls Tryz.prog 217 #[.int .i64 a, .int .i64 m] w fun e w' => e = .returned (.tuple #[.int .i64 (fqN a m), .bool (fqB a m)]) ∧ Bl w w' := by
  unfold fqN fqB
  have M := root_any a 16777216 m
  generalize rtN a 16777216 m = x at *
  generalize rtB a 16777216 m = xb at *
  have HM := hideP M
  clear M
  go_enter Tryz.func217, Tryz.ntmps217
  go_wp2_with fail
  refine (HM.out _).mono ?_
  rintro e w1 ⟨rfl, h1⟩
  go_wp2_with fail
  refine (told_any x xb _ 0 [a] _ (by simp) (one_cell _ _ _)).mono ?_
  rintro e w2 ⟨rfl, rfl⟩
  go_wp2
  go_ret2
  exact ⟨rfl, h1.alloc _⟩

theorem tup_eq {a b : Int} {p q : Bool} (h : a = b) (k : p = q) : Ending.returned (.tuple #[.int .i64 a, .bool p]) = .returned (.tuple #[.int .i64 b, .bool q]) := by rw [h, k]
theorem wsum (a b x y : Int) (hx : x = wrap64 y) (hy : frB a = true → frB b = true → -9223372036854775808 ≤ y ∧ y ≤ 9223372036854775807) : (frB x && allB [a, b]) = (frB y && allB [a, b]) ∧ toN x (frB x && allB [a, b]) = toN y (frB y && allB [a, b]) := by
  rw [allB2]
  cases ha : frB a
  · simp [toN]
  · cases hb : frB b
    · simp [toN]
    · obtain rfl : x = y := by rw [hx]; exact IntWalk.wrap64_in _ (by have := hy ha hb; omega)
      exact ⟨rfl, rfl⟩

theorem fadd_any (a b : Int) (w : World) :
    Calls Tryz.prog 210 #[.int .i64 a, .int .i64 b] w fun e w' => e = .returned (.tuple #[.int .i64 (faN a b), .bool (faB a b)]) ∧ Bl w w' := by
  have e := wsum a b (wrap64 (a + b)) (a + b) rfl (fun ha hb => by have := frB_iff.1 ha; have := frB_iff.1 hb; omega)
  unfold faN faB
  have HE := hideP e
  clear e
  go_enter Tryz.func210, Tryz.ntmps210
  go_wp2_with fail
  refine (told_any _ true _ 0 [a, b] _ (by simp) (two_cells _ _ _ _)).mono ?_
  rintro e w2 ⟨rfl, rfl⟩
  go_wp2
  go_ret2
  exact ⟨tup_eq HE.out.2 HE.out.1, (Bl.refl _).alloc _⟩

theorem fsub_any (a b : Int) (w : World) :
    Calls Tryz.prog 219 #[.int .i64 a, .int .i64 b] w fun e w' => e = .returned (.tuple #[.int .i64 (fsN a b), .bool (fsB a b)]) ∧ Bl w w' := by
  have e := wsum a b (wrap64 (a - b)) (a - b) rfl (fun ha hb => by have := frB_iff.1 ha; have := frB_iff.1 hb; omega)
  unfold fsN fsB
  have HE := hideP e
  clear e
  go_enter Tryz.func219, Tryz.ntmps219
  go_wp2_with fail
  refine (told_any _ true _ 0 [a, b] _ (by simp) (two_cells _ _ _ _)).mono ?_
  rintro e w2 ⟨rfl, rfl⟩
  go_wp2
  go_ret2
  exact ⟨tup_eq HE.out.2 HE.out.1, (Bl.refl _).alloc _⟩

/-- Is a whole number told? -/
def foB (n : Int) : Bool := decide (-67108864 ≤ n) && decide (n ≤ 67108864)
def foN (n : Int) : Int := toN (n * 16777216) (foB n)
theorem of_val (n : Int) : (mdB n 16777216 1 1 && frB (mdN n 16777216 1 1)) = foB n ∧ toN (mdN n 16777216 1 1) (mdB n 16777216 1 1 && frB (mdN n 16777216 1 1)) = foN n := by
  cases hr : rightB n
  · have x := md_bad n 16777216 1 1 (mdG_bad (.inl hr))
    rw [x.1, x.2]
    have hf : foB n = false := by
      cases h : foB n
      · rfl
      · have : -67108864 ≤ n ∧ n ≤ 67108864 := by simpa [foB] using h
        rw [rightB_eq (by omega)] at hr; cases hr
    unfold foN
    rw [hf]
    exact ⟨rfl, rfl⟩
  · by_cases hp : rightB (n * 16777216) = true
    · have x := md_exact n 16777216 1 (n * 16777216) 1 hr (by decide) (by decide) hp (by decide) (by decide) (by omega)
      rw [x.1, x.2, Bool.true_and]
      have : frB (n * 16777216) = foB n := by
        unfold frB foB
        rw [Bool.eq_iff_iff]; simp; omega
      unfold foN
      rw [this]
      exact ⟨rfl, rfl⟩
    · have hnr := rightB_iff.1 hr
      have hf : foB n = false := by
        cases h : foB n
        · rfl
        · have : -67108864 ≤ n ∧ n ≤ 67108864 := by simpa [foB] using h
          exact absurd (rightB_eq (by omega)) hp
      have hb : mdB n 16777216 1 1 = false := by
        have hbig : ¬ szI n * 16777216 ≤ 4611686018427387903 := by
          intro h
          apply hp
          apply rightB_eq
          unfold szI at h
          split at h <;> omega
        unfold mdB mdC
        have e1 : szI 16777216 = 16777216 := rfl
        have e2 : szI 1 = 1 := rfl
        have hz := outB_zero (szI n * 16777216) 1 (belB n 16777216 1) 1 (by omega)
        rw [e1, e2, Int.ediv_one, Int.emod_one, hz]
        have : rdB (upI (szI n * 16777216) false) = false := by
          unfold rdB upI
          simp
          omega
        rw [this, Bool.and_false]
      unfold foN
      rw [hb, hf]
      exact ⟨rfl, rfl⟩

theorem fof_any (n : Int) (w : World) :
    Calls Tryz.prog 79 #[.int .i64 n] w fun e w' => e = .returned (.tuple #[.int .i64 (foN n), .bool (foB n)]) ∧ Bl w w' := by
  have e := of_val n
  have M := mulDiv_any n 16777216 1 1
  generalize mdN n 16777216 1 1 = x at *
  generalize mdB n 16777216 1 1 = xb at *
  rw [← e.1, ← e.2]
  have HM := hideP M
  clear M e
  go_enter Tryz.func79, Tryz.ntmps79
  go_wp2_with fail
  refine (HM.out _).mono ?_
  rintro e w1 ⟨rfl, h1⟩
  go_wp2_with fail
  refine (told_nil x xb _).mono ?_
  rintro e w2 ⟨rfl, rfl⟩
  go_wp2
  go_ret2
  exact ⟨rfl, h1⟩

end Go.Proofs.YtljmggemdkfbiaaGreat
