/- Enclosed numbers enclose, step by step, what the same steps of the lane of whole covariances tell in fractions: X, P, and the news. Conditions: none (every input). -/
import Derived.Test.YthnadgbloamlaaaGreatED
import Derived.Test.YthnadgbloamlaaaGreatRefC
import Derived.Test.YthnadgbloamlaaaGreatVeM
import Derived.Test.YthnadgbloamlaaaGreatFrN
import Derived.Test.YthnadgbloamlaaaGreatVeHF
import Derived.Test.YthnadgbloamlaaaGreatEA
import Derived.Test.YthnadgbloamlaaaGreatEE
import Derived.Test.YthnadgbloamlaaaGreatWlr
import Derived.Test.YthnadgbloamlaaaGreatEC
import Derived.Test.YthnadgbloamlaaaGreatEF
import Derived.Test.YthnadgbloamlaaaGreatVeI
import Derived.ProofKit
import Derived.OpenShut
import Derived.Lib.SmallJoins
import Derived.Carry
/- Contracts of env.beside, Encloses (layer 3), and of the document's Encloses. -/
namespace Go.Proofs.YthnadgbloamlaaaGreat
open Go.RowKit
set_option linter.unusedSimpArgs false
set_option linter.unusedVariables false

theorem tdiv_floor (n d : Int) (hd : 0 < d) : (n.tmod d < 0 ∧ n.tdiv d - 1 = n / d ∧ n.tmod d + d = n % d) ∨ (0 ≤ n.tmod d ∧ n.tdiv d = n / d ∧ n.tmod d = n % d) := by
  have e := Int.mul_tdiv_add_tmod n d
  have l1 := Int.tmod_lt_of_pos n hd
  have l2 : -d < n.tmod d := by
    have := Int.lt_tmod_of_pos n hd
    omega
  rcases Int.lt_or_le (n.tmod d) 0 with h | h
  · left
    have u := (Int.ediv_emod_unique hd (a := n) (q := n.tdiv d - 1) (r := n.tmod d + d)).2 ⟨by rw [Int.mul_sub, Int.mul_one]; omega, by omega, by omega⟩
    exact ⟨h, u.1.symm, u.2.symm⟩
  · right
    have u := (Int.ediv_emod_unique hd (a := n) (q := n.tdiv d) (r := n.tmod d)).2 ⟨by omega, h, l1⟩
    exact ⟨h, u.1.symm, u.2.symm⟩
/-- The number of units that is not above n by d, and the one that is not below it; whether both are told. -/
def bsB (n d : Int) : Bool := foB (n / d)
def bsL (n d : Int) : Int := toN (n * 16777216 / d) (bsB n d)
def bsH (n d : Int) : Int := toN (-(-(n * 16777216) / d)) (bsB n d)
theorem up_floor (x d : Int) (hd : 0 < d) : -(-x / d) = if 0 < x % d then x / d + 1 else x / d := by
  have a1 := Int.mul_ediv_add_emod x d
  have a2 := Int.emod_nonneg x (show d ≠ 0 by omega)
  have a3 := Int.emod_lt_of_pos x hd
  generalize x / d = q at *
  generalize x % d = r at *
  by_cases h : 0 < r
  · rw [if_pos h]
    have hn := (Int.ediv_emod_unique hd (a := -x) (q := -q - 1) (r := d - r)).2 ⟨by rw [Int.mul_sub, Int.mul_neg, Int.mul_one]; omega, by omega, by omega⟩
    rw [hn.1]; omega
  · rw [if_neg h]
    have hn := (Int.ediv_emod_unique hd (a := -x) (q := -q) (r := 0)).2 ⟨by rw [Int.mul_neg]; omega, by omega, hd⟩
    rw [hn.1]; omega
theorem units_floor (n d : Int) (hd : 0 < d) : n * 16777216 / d = n / d * 16777216 + n % d * 16777216 / d ∧ n * 16777216 % d = n % d * 16777216 % d := by
  have e : n * 16777216 = n % d * 16777216 + n / d * 16777216 * d := by
    have := Int.mul_ediv_add_emod n d
    rw [Int.mul_right_comm, Int.mul_comm (n / d) d, ← Int.add_mul]
    congr 1
    omega
  rw [e]
  constructor
  · rw [Int.add_mul_ediv_right _ _ (by omega), Int.add_comm]
  · rw [Int.add_mul_emod_self_right]

set_option maxHeartbeats 1000000 in
theorem beside_any (n d : Int) (w : World) (hd : 0 < d) (hn : rightB n = true) (hr : rightB d = true) :
    Calls Tryz.prog 123 #[.int .i64 n, .int .i64 d] w fun e w' => e = .returned (.tuple #[.int .i64 (bsL n d), .int .i64 (bsH n d), .bool (bsB n d)]) ∧ Bl w w' := by
  have kn := rightB_iff.1 hn
  have kd := rightB_iff.1 hr
  have uf := units_floor n d hd
  have ue := up_floor (n * 16777216) d hd
  have r0 := Int.emod_nonneg n (show d ≠ 0 by omega)
  have r1 := Int.emod_lt_of_pos n hd
  have tf := tdiv_floor n d hd
  have q0 : -4611686018427387904 ≤ n / d ∧ n / d ≤ 4611686018427387903 := by
    have := Int.mul_ediv_add_emod n d
    constructor
    · rcases Int.lt_or_le (n / d) (-4611686018427387904) with h | h
      · have := Int.mul_le_mul_of_nonneg_left (show n / d ≤ -4611686018427387905 by omega) (show 0 ≤ d by omega)
        omega
      · exact h
    · exact Int.le_trans (Int.ediv_le_ediv hd kn.2) (Int.ediv_le_self _ (by omega))
  unfold bsL bsH
  rw [ue, uf.1, uf.2]
  have F := fof_any (n / d)
  unfold foN at F
  have e1 : bsB n d = foB (n / d) := rfl
  rw [e1]
  clear ue uf e1 hn hr
  generalize n / d = q at *
  generalize n % d = r at *
  have hr2 : r * 16777216 / 18446744073709551616 < d := by omega
  have M := hideP (mul64_any r 16777216 ⟨r0, by omega⟩ ⟨by decide, by decide⟩)
  have D := hideP (fun w => div64_any (r * 16777216) d w (by omega) ⟨by omega, by omega⟩ hr2)
  have p0 : 0 ≤ r * 16777216 / d ∧ r * 16777216 / d < 16777216 := by
    refine ⟨Int.ediv_nonneg (by omega) (by omega), Int.ediv_lt_of_lt_mul hd ?_⟩
    rw [Int.mul_comm]
    exact Int.mul_lt_mul_of_pos_left r1 (by decide)
  have p1 := Int.emod_nonneg (r * 16777216) (show d ≠ 0 by omega)
  have hF0 : foB q = true → -67108864 ≤ q ∧ q ≤ 67108864 := fun h => by simpa [foB] using h
  have HF := hideP F
  clear F hr2
  generalize r * 16777216 / d = P at *
  generalize r * 16777216 % d = R at *
  cases hq : foB q
  · rw [hq] at HF
    simp only [toN_f] at HF ⊢
    clear hF0 hq
    go_enter Tryz.func123, Tryz.ntmps123
    go_wp2_with fail
    go_quiet (fail)
    generalize n.tdiv d = T at *
    generalize n.tmod d = U at *
    have hw : Bl w (w.drewN nq) := SmallBl _ _ _
    have HW := hideP hw
    clear hw
    have tf' : (r - d < 0 ∧ q + 1 = T ∧ r - d = U) ∨ (0 ≤ r ∧ q = T ∧ r = U) := by
      rcases tf with ⟨t1, t2, t3⟩ | ⟨t1, t2, t3⟩
      · left; omega
      · right; omega
    clear tf
    rcases tf' with ⟨t1, rfl, rfl⟩ | ⟨t1, rfl, rfl⟩
    all_goals
      go_wp2_with fail
      refine (HF.out _).mono ?_
      rintro e w1 ⟨rfl, h1⟩
      go_wp2
      go_ret3
      exact ⟨rfl, HW.out.trans h1⟩
  rw [hq] at HF
  obtain ⟨q1, q2⟩ := hF0 hq
  simp only [toN_t] at HF ⊢
  clear hF0 hq
  by_cases hR : 0 < R
  · rw [if_pos hR]
    go_enter Tryz.func123, Tryz.ntmps123
    go_wp2_with fail
    go_quiet (fail)
    generalize n.tdiv d = T at *
    generalize n.tmod d = U at *
    have hw : Bl w (w.drewN nq) := SmallBl _ _ _
    have HW := hideP hw
    clear hw
    have tf' : (r - d < 0 ∧ q + 1 = T ∧ r - d = U) ∨ (0 ≤ r ∧ q = T ∧ r = U) := by
      rcases tf with ⟨t1, t2, t3⟩ | ⟨t1, t2, t3⟩
      · left; omega
      · right; omega
    clear tf
    rcases tf' with ⟨t1, rfl, rfl⟩ | ⟨t1, rfl, rfl⟩
    all_goals
      go_wp2_with fail
      refine (HF.out _).mono ?_
      rintro e w1 ⟨rfl, h1⟩
      go_wp2_with fail
      refine (M.out _).mono ?_
      rintro e w2 ⟨rfl, rfl⟩
      go_wp2_with fail
      refine (D.out _).mono ?_
      rintro e w3 ⟨rfl, h3⟩
      go_wp2
      go_ret3
      exact ⟨rfl, (HW.out.trans h1).trans h3⟩
  · rw [if_neg hR]
    go_enter Tryz.func123, Tryz.ntmps123
    go_wp2_with fail
    go_quiet (fail)
    generalize n.tdiv d = T at *
    generalize n.tmod d = U at *
    have hw : Bl w (w.drewN nq) := SmallBl _ _ _
    have HW := hideP hw
    clear hw
    have tf' : (r - d < 0 ∧ q + 1 = T ∧ r - d = U) ∨ (0 ≤ r ∧ q = T ∧ r = U) := by
      rcases tf with ⟨t1, t2, t3⟩ | ⟨t1, t2, t3⟩
      · left; omega
      · right; omega
    clear tf
    rcases tf' with ⟨t1, rfl, rfl⟩ | ⟨t1, rfl, rfl⟩
    all_goals
      go_wp2_with fail
      refine (HF.out _).mono ?_
      rintro e w1 ⟨rfl, h1⟩
      go_wp2_with fail
      refine (M.out _).mono ?_
      rintro e w2 ⟨rfl, rfl⟩
      go_wp2_with fail
      refine (D.out _).mono ?_
      rintro e w3 ⟨rfl, h3⟩
      go_wp2
      go_ret3
      exact ⟨rfl, (HW.out.trans h1).trans h3⟩

/-- Is n by d enclosed (P3.2)? -/
def withinB (a : En) (n d : Int) : Bool := decide (a.l * d ≤ n * 16777216) && decide (n * 16777216 ≤ a.h * d)
def enclB (a : En) (n d : Int) : Bool := fineB a && decide (1 ≤ d) && rightB n && rightB d && withinB a n d
theorem bs_within (a : En) (n d : Int) (ha : fineB a = true) (hd : 0 < d) : (bsB n d && (decide (a.l ≤ bsL n d) && decide (bsH n d ≤ a.h))) = withinB a n d := by
  obtain ⟨_, _, _, f1, f2⟩ := fineB_iff.1 ha
  have g1 := frB_iff.1 f1
  have g2 := frB_iff.1 f2
  unfold bsL bsH withinB
  cases hb : bsB n d
  · rw [Bool.false_and, eq_comm, Bool.and_eq_false_iff]
    have hq : n / d < -67108864 ∨ 67108864 < n / d := by
      unfold bsB foB at hb
      rw [Bool.and_eq_false_iff] at hb
      rcases hb with h | h
      · have := of_decide_eq_false h; omega
      · have := of_decide_eq_false h; omega
    have e := Int.mul_ediv_add_emod n d
    have r0 := Int.emod_nonneg n (show d ≠ 0 by omega)
    have r1 := Int.emod_lt_of_pos n hd
    rcases hq with h | h
    · left
      apply decide_eq_false
      intro hc
      have k1 := Int.mul_le_mul_of_nonneg_left (show n / d ≤ -67108865 by omega) (show 0 ≤ d by omega)
      have k2 := Int.mul_le_mul_of_nonneg_right g1.1 (show 0 ≤ d by omega)
      omega
    · right
      apply decide_eq_false
      intro hc
      have k1 := Int.mul_le_mul_of_nonneg_left (show 67108865 ≤ n / d by omega) (show 0 ≤ d by omega)
      have k2 := Int.mul_le_mul_of_nonneg_right g2.2 (show 0 ≤ d by omega)
      omega
  · rw [Bool.true_and, toN_t, toN_t]
    have i1 : a.l ≤ n * 16777216 / d ↔ a.l * d ≤ n * 16777216 := Int.le_ediv_iff_mul_le hd
    have i2 : -(-(n * 16777216) / d) ≤ a.h ↔ n * 16777216 ≤ a.h * d := by
      have : -a.h ≤ -(n * 16777216) / d ↔ -a.h * d ≤ -(n * 16777216) := Int.le_ediv_iff_mul_le hd
      rw [Int.neg_mul] at this
      constructor
      · intro h; have := this.1 (by omega); omega
      · intro h; have := this.2 (by omega); omega
    rw [decide_eq_decide.2 i1, decide_eq_decide.2 i2]

set_option maxHeartbeats 1000000 in
theorem encl_any (a : En) (n d : Int) (w : World) :
    Calls Tryz.prog 59 #[enV a, .int .i64 n, .int .i64 d] w fun e w' => e = .returned (.bool (enclB a n d)) ∧ Bl w w' := by
  obtain ⟨W, hW⟩ : ∃ W, W = w.alloc (.cells #[.int .i64 a.v, .int .i64 a.l, .int .i64 a.h, .bool a.bad] 28) := ⟨_, rfl⟩
  have b0 : Bl w W := by rw [hW]; exact (Bl.refl _).alloc _
  have x0 : Box W w.heap.size a := by rw [hW]; exact Box.new w a _
  have c1 := x0.c1
  have HW := hideP hW
  have HX := hideP x0
  clear hW x0
  have F := fine_any a
  unfold enclB
  cases hf : fineB a
  · rw [hf] at F
    have HF := hideP F
    clear F
    go_enter Tryz.func59, Tryz.ntmps59
    go_wp2_with fail
    rw [← HW.out]
    refine (HF.out _).mono ?_
    rintro e w1 ⟨rfl, h1⟩
    go_wp2
    go_ret
    exact ⟨rfl, b0.trans h1⟩
  rw [hf] at F
  have HF := hideP F
  clear F
  have ways : (d ≤ 0) ∨ (0 < d ∧ 4611686018427387903 < d) ∨ (0 < d ∧ d ≤ 4611686018427387903 ∧ 4611686018427387903 < n) ∨ (0 < d ∧ d ≤ 4611686018427387903 ∧ n ≤ 4611686018427387903 ∧ n < -4611686018427387903) ∨
      (0 < d ∧ d ≤ 4611686018427387903 ∧ n ≤ 4611686018427387903 ∧ -4611686018427387903 ≤ n) := by omega
  have no : ∀ x : Bool, (d ≤ 0 ∨ 4611686018427387903 < d ∨ 4611686018427387903 < n ∨ n < -4611686018427387903) → (true && decide (1 ≤ d) && rightB n && rightB d && x) = false := by
    intro x h
    rw [Bool.true_and]
    rcases h with h | h | h | h
    · rw [decide_eq_false (by omega)]; rfl
    · have : rightB d = false := by unfold rightB; rw [decide_eq_false (show ¬ d ≤ 4611686018427387903 by omega), Bool.and_false]
      rw [this, Bool.and_false, Bool.false_and]
    · have : rightB n = false := by unfold rightB; rw [decide_eq_false (show ¬ n ≤ 4611686018427387903 by omega), Bool.and_false]
      rw [this, Bool.and_false, Bool.false_and, Bool.false_and]
    · have : rightB n = false := by unfold rightB; rw [decide_eq_false (show ¬ -4611686018427387903 ≤ n by omega), Bool.false_and]
      rw [this, Bool.and_false, Bool.false_and, Bool.false_and]
  rcases ways with k | ⟨k, k2⟩ | ⟨k, k2, k3⟩ | ⟨k, k2, k3, k4⟩ | ⟨k, k2, k3, k4⟩
  · rw [no _ (.inl k)]
    clear no
    go_enter Tryz.func59, Tryz.ntmps59
    go_wp2_with fail
    rw [← HW.out]
    refine (HF.out _).mono ?_
    rintro e w1 ⟨rfl, h1⟩
    go_wp2
    go_ret
    exact ⟨rfl, b0.trans h1⟩
  · rw [no _ (.inr (.inl k2))]
    clear no
    go_enter Tryz.func59, Tryz.ntmps59
    go_wp2_with fail
    rw [← HW.out]
    refine (HF.out _).mono ?_
    rintro e w1 ⟨rfl, h1⟩
    go_wp2
    go_ret
    exact ⟨rfl, b0.trans h1⟩
  · rw [no _ (.inr (.inr (.inl k3)))]
    clear no
    go_enter Tryz.func59, Tryz.ntmps59
    go_wp2_with fail
    rw [← HW.out]
    refine (HF.out _).mono ?_
    rintro e w1 ⟨rfl, h1⟩
    go_wp2
    go_ret
    exact ⟨rfl, b0.trans h1⟩
  · rw [no _ (.inr (.inr (.inr k4)))]
    clear no
    go_enter Tryz.func59, Tryz.ntmps59
    go_wp2_with fail
    rw [← HW.out]
    refine (HF.out _).mono ?_
    rintro e w1 ⟨rfl, h1⟩
    go_wp2
    go_ret
    exact ⟨rfl, b0.trans h1⟩
  · clear no
    have rn : rightB n = true := rightB_eq (by omega)
    have rd : rightB d = true := rightB_eq (by omega)
    have S := fun w => beside_any n d w k rn rd
    have e := bs_within a n d hf k
    rw [rn, rd, decide_eq_true (show 1 ≤ d by omega), ← e]
    clear rn rd e hf
    generalize bsB n d = ok at *
    generalize bsL n d = x at *
    generalize bsH n d = y at *
    have HS := hideP S
    clear S
    cases ok
    · go_enter Tryz.func59, Tryz.ntmps59
      go_wp2_with fail
      rw [← HW.out]
      refine (HF.out _).mono ?_
      rintro e w1 ⟨rfl, h1⟩
      go_wp2_with fail
      refine (HS.out _).mono ?_
      rintro e w2 ⟨rfl, h2⟩
      go_wp2
      go_ret
      exact ⟨rfl, (b0.trans h1).trans h2⟩
    · by_cases kl : a.l ≤ x
      · rw [decide_eq_true kl]
        go_enter Tryz.func59, Tryz.ntmps59
        go_wp2_with fail
        rw [← HW.out]
        refine (HF.out _).mono ?_
        rintro e w1 ⟨rfl, h1⟩
        go_wp2_with fail
        refine (HS.out _).mono ?_
        rintro e w2 ⟨rfl, h2⟩
        have b1 := (HX.out.later (h1.trans h2)).c1
        have b2 := (HX.out.later (h1.trans h2)).c2
        go_wp2
        go_ret
        exact ⟨rfl, (b0.trans h1).trans h2⟩
      · rw [decide_eq_false kl]
        go_enter Tryz.func59, Tryz.ntmps59
        go_wp2_with fail
        rw [← HW.out]
        refine (HF.out _).mono ?_
        rintro e w1 ⟨rfl, h1⟩
        go_wp2_with fail
        refine (HS.out _).mono ?_
        rintro e w2 ⟨rfl, h2⟩
        have b1 := (HX.out.later (h1.trans h2)).c1
        have b2 := (HX.out.later (h1.trans h2)).c2
        go_wp2
        go_ret
        exact ⟨rfl, (b0.trans h1).trans h2⟩

end Go.Proofs.YthnadgbloamlaaaGreat

/- What the document fixes of a third (layer 3). -/
namespace Go.Proofs.YthnadgbloamlaaaGreat
open Go.RowKit
set_option linter.unusedSimpArgs false
set_option linter.unusedVariables false

end Go.Proofs.YthnadgbloamlaaaGreat

/- The mathematics of the laws of layer 3. -/
namespace Go.Proofs.YthnadgbloamlaaaGreat
open Go.RowKit
set_option linter.unusedSimpArgs false
set_option linter.unusedVariables false

theorem low2 {N : Int → Int → Int → Int} (hN : Bd N) (x y : Int) : lowF N [(x, y), (x, y)] = N x y 1 := by
  have := hN x y 1
  simp only [lowF, List.foldl_cons, List.foldl_nil]; omega
theorem high2 {N : Int → Int → Int → Int} (hN : Bd N) (x y : Int) : highF N [(x, y), (x, y)] = N x y 2 := by
  have := hN x y 2
  simp only [highF, List.foldl_cons, List.foldl_nil]; omega
theorem low4 {N : Int → Int → Int → Int} (hN : Bd N) (x y : Int) : lowF N [(x, y), (x, y), (x, y), (x, y)] = N x y 1 := by
  have := hN x y 1
  simp only [lowF, List.foldl_cons, List.foldl_nil]; omega
theorem high4 {N : Int → Int → Int → Int} (hN : Bd N) (x y : Int) : highF N [(x, y), (x, y), (x, y), (x, y)] = N x y 2 := by
  have := hN x y 2
  simp only [highF, List.foldl_cons, List.foldl_nil]; omega
/-- A list of one pair, twice or four times. -/
def Same (ps : List (Int × Int)) (x y : Int) : Prop := ps = [(x, y), (x, y)] ∨ ps = [(x, y), (x, y), (x, y), (x, y)]
theorem Same.low {ps : List (Int × Int)} {x y : Int} (h : Same ps x y) {N : Int → Int → Int → Int} (hN : Bd N) : lowF N ps = N x y 1 := by
  rcases h with rfl | rfl
  · exact low2 hN x y
  · exact low4 hN x y
theorem Same.high {ps : List (Int × Int)} {x y : Int} (h : Same ps x y) {N : Int → Int → Int → Int} (hN : Bd N) : highF N ps = N x y 2 := by
  rcases h with rfl | rfl
  · exact high2 hN x y
  · exact high4 hN x y
theorem Same.ok {ps : List (Int × Int)} {x y : Int} (h : Same ps x y) (B : Int → Int → Int → Bool) : okF B ps = (B x y 1 && B x y 2) := by
  rcases h with rfl | rfl <;> simp [okF]

theorem okE_iff {B : Int → Int → Int → Bool} {a b : En} {ps : List (Int × Int)} : okE B a b ps = true ↔ B a.v b.v 0 = true ∧ fineB a = true ∧ fineB b = true ∧ okF B ps = true := by
  unfold okE; simp [Bool.and_eq_true, and_assoc]
theorem pt_fine {n : Int} (h : frB n = true) : fineB ⟨n, n, n, false⟩ = true := fineB_iff.2 ⟨rfl, Int.le_refl _, Int.le_refl _, h, h⟩

/-- What is told is Bad, or Fine. -/
def FineOr (x : En) : Prop := x = wrongE ∨ (x.bad = false ∧ fineB x = true)
theorem fine_told {N : Int → Int → Int → Int} {B : Int → Int → Int → Bool} {a b : En} {ps : List (Int × Int)} (hN : Bd N)
    (hH : fineB a = true → fineB b = true → okF B ps = true → Hold N B ps a.v b.v) : FineOr (toldE N B a b ps) := by
  cases h : okE B a b ps
  · exact .inl (told_bad h)
  · rw [told_ok h]
    obtain ⟨h0, ha, hb, hk⟩ := okE_iff.1 h
    have H := hH ha hb hk
    have l := low_bd hN ps
    have u := high_bd hN ps
    have h1 := H.low
    have h2 := H.down
    have h3 := H.up
    have h4 := H.high
    exact .inr ⟨rfl, fineB_iff.2 ⟨rfl, Int.le_trans h1 h2, Int.le_trans h3 h4, frB_eq l, frB_eq u⟩⟩
theorem fine_add (a b : En) : FineOr (addE a b) := fine_told bdA fun ha hb hk => hold_add ha hb hk (in_v ha) (in_v hb)
theorem fine_sub (a b : En) : FineOr (subE a b) := fine_told bdS fun ha hb hk => hold_sub ha hb hk (in_v ha) (in_v hb)
theorem fine_mul (a b : En) : FineOr (mulE a b) := fine_told bdM fun ha hb hk => hold_mul ha hb hk (in_v ha) (in_v hb)
theorem fine_div (a b : En) : FineOr (divE a b) := by
  unfold divE
  cases hz : zeroB b
  · exact fine_told bdD fun ha hb hk => hold_div ha hb hz hk (in_v ha) (in_v hb)
  · exact .inl rfl
/-- out is Bad, or it holds what 'inn' holds. -/
def With (inn out : En) : Prop := out.bad = true ∨ (inn.bad = false ∧ out.l ≤ inn.l ∧ inn.h ≤ out.h)
end Go.Proofs.YthnadgbloamlaaaGreat

/- Enclosed numbers, of fractions of whole numbers: what is told of enclosed numbers encloses what is told of the fractions that they enclose. Mathematics alone. -/
namespace Go.Proofs.YthnadgbloamlaaaGreat
open Go.RowKit
set_option linter.unusedSimpArgs false
set_option linter.unusedVariables false

/-- n by d (d above 0) lies between the bounds. -/
def QIn (a : En) (n d : Int) : Prop := a.l * d ≤ n * 16777216 ∧ n * 16777216 ≤ a.h * d
/-- It is Bad, or it may be, and encloses n by d. -/
def Enq (a : En) (n d : Int) : Prop := a = wrongE ∨ (fineB a = true ∧ QIn a n d)
theorem cancel_pos {x y k : Int} (hk : 0 < k) (h : x * k ≤ y * k) : x ≤ y := Int.le_of_mul_le_mul_right h hk
/-- The same fraction, by other parts. -/
theorem QIn.same {a : En} {n d n' d' : Int} (h : QIn a n d) (hd : 0 < d) (hd' : 0 < d') (e : n * d' = n' * d) : QIn a n' d' := by
  obtain ⟨h1, h2⟩ := h
  constructor
  · refine cancel_pos hd ?_
    have := Int.mul_le_mul_of_nonneg_right h1 (Int.le_of_lt hd')
    rw [show a.l * d' * d = a.l * d * d' by rw [Int.mul_right_comm], show n' * 16777216 * d = n * 16777216 * d' by rw [Int.mul_right_comm, ← e, Int.mul_right_comm]]
    exact this
  · refine cancel_pos hd ?_
    have := Int.mul_le_mul_of_nonneg_right h2 (Int.le_of_lt hd')
    rw [show a.h * d' * d = a.h * d * d' by rw [Int.mul_right_comm], show n' * 16777216 * d = n * 16777216 * d' by rw [Int.mul_right_comm, ← e, Int.mul_right_comm]]
    exact this
theorem Enq.same {a : En} {n d n' d' : Int} (h : Enq a n d) (hd : 0 < d) (hd' : 0 < d') (e : n * d' = n' * d) : Enq a n' d' := by
  rcases h with h | ⟨f, q⟩
  · exact .inl h
  · exact .inr ⟨f, q.same hd hd' e⟩
theorem wrong_fine {a : En} (h : a = wrongE) : fineB a = false := by subst h; rfl
theorem told_wrong {N : Int → Int → Int → Int} {B : Int → Int → Int → Bool} {a b : En} {ps : List (Int × Int)} (h : a = wrongE ∨ b = wrongE) : toldE N B a b ps = wrongE := by
  refine told_bad ?_
  unfold okE
  rcases h with h | h
  · rw [wrong_fine h]; simp
  · rw [wrong_fine h]; simp
/-- What is told of two, by what holds of the bounds. -/
theorem enq_told {N : Int → Int → Int → Int} {B : Int → Int → Int → Bool} {a b : En} {ps : List (Int × Int)} {n d : Int} (hf : FineOr (toldE N B a b ps)) (h : fineB a = true → fineB b = true → okF B ps = true → lowF N ps * d ≤ n * 16777216 ∧ n * 16777216 ≤ highF N ps * d) : Enq (toldE N B a b ps) n d := by
  rcases hf with hf | ⟨_, hf⟩
  · exact .inl hf
  · cases hk : okE B a b ps
    · exact .inl (told_bad hk)
    · obtain ⟨h0, ha, hb, ho⟩ := okE_iff.1 hk
      have q := h ha hb ho
      refine .inr ⟨hf, ?_⟩
      rw [told_ok hk]
      exact q
theorem enq_add {a b : En} {n1 d1 n2 d2 : Int} (hd1 : 0 < d1) (hd2 : 0 < d2) (ha : Enq a n1 d1) (hb : Enq b n2 d2) : Enq (addE a b) (n1 * d2 + n2 * d1) (d1 * d2) := by
  rcases ha with ha | ⟨fa, qa⟩
  · exact .inl (told_wrong (.inl ha))
  rcases hb with hb | ⟨fb, qb⟩
  · exact .inl (told_wrong (.inr hb))
  refine enq_told (fine_add a b) fun _ _ ho => ?_
  have m1 : (a.l, b.l) ∈ prs2 a b := by simp [prs2]
  have m2 : (a.h, b.h) ∈ prs2 a b := by simp [prs2]
  have l1 := low_le (N := nA) m1
  have l2 := le_high (N := nA) m2
  simp only [nA] at l1 l2
  rw [(fa_val (ok_at ho m1).1).1] at l1
  rw [(fa_val (ok_at ho m2).2).1] at l2
  have hdd : 0 < d1 * d2 := Int.mul_pos hd1 hd2
  have p1 := Int.mul_le_mul_of_nonneg_right qa.1 (Int.le_of_lt hd2)
  have p2 := Int.mul_le_mul_of_nonneg_right qb.1 (Int.le_of_lt hd1)
  have p3 := Int.mul_le_mul_of_nonneg_right qa.2 (Int.le_of_lt hd2)
  have p4 := Int.mul_le_mul_of_nonneg_right qb.2 (Int.le_of_lt hd1)
  have g1 := Int.mul_le_mul_of_nonneg_right l1 (Int.le_of_lt hdd)
  have g2 := Int.mul_le_mul_of_nonneg_right l2 (Int.le_of_lt hdd)
  rw [show (a.l + b.l) * (d1 * d2) = a.l * d1 * d2 + b.l * d2 * d1 by rw [Int.add_mul, Int.mul_assoc, Int.mul_assoc, Int.mul_comm d2 d1]] at g1
  rw [show (a.h + b.h) * (d1 * d2) = a.h * d1 * d2 + b.h * d2 * d1 by rw [Int.add_mul, Int.mul_assoc, Int.mul_assoc, Int.mul_comm d2 d1]] at g2
  rw [show (n1 * d2 + n2 * d1) * 16777216 = n1 * 16777216 * d2 + n2 * 16777216 * d1 by rw [Int.add_mul, Int.mul_right_comm n1, Int.mul_right_comm n2]]
  constructor <;> omega
theorem enq_sub {a b : En} {n1 d1 n2 d2 : Int} (hd1 : 0 < d1) (hd2 : 0 < d2) (ha : Enq a n1 d1) (hb : Enq b n2 d2) : Enq (subE a b) (n1 * d2 - n2 * d1) (d1 * d2) := by
  rcases ha with ha | ⟨fa, qa⟩
  · exact .inl (told_wrong (.inl ha))
  rcases hb with hb | ⟨fb, qb⟩
  · exact .inl (told_wrong (.inr hb))
  refine enq_told (fine_sub a b) fun _ _ ho => ?_
  have m1 : (a.l, b.h) ∈ prsX a b := by simp [prsX]
  have m2 : (a.h, b.l) ∈ prsX a b := by simp [prsX]
  have l1 := low_le (N := nS) m1
  have l2 := le_high (N := nS) m2
  simp only [nS] at l1 l2
  rw [(fs_val (ok_at ho m1).1).1] at l1
  rw [(fs_val (ok_at ho m2).2).1] at l2
  have hdd : 0 < d1 * d2 := Int.mul_pos hd1 hd2
  have p1 := Int.mul_le_mul_of_nonneg_right qa.1 (Int.le_of_lt hd2)
  have p2 := Int.mul_le_mul_of_nonneg_right qb.1 (Int.le_of_lt hd1)
  have p3 := Int.mul_le_mul_of_nonneg_right qa.2 (Int.le_of_lt hd2)
  have p4 := Int.mul_le_mul_of_nonneg_right qb.2 (Int.le_of_lt hd1)
  have g1 := Int.mul_le_mul_of_nonneg_right l1 (Int.le_of_lt hdd)
  have g2 := Int.mul_le_mul_of_nonneg_right l2 (Int.le_of_lt hdd)
  rw [show (a.l - b.h) * (d1 * d2) = a.l * d1 * d2 - b.h * d2 * d1 by rw [Int.sub_mul, Int.mul_assoc, Int.mul_assoc, Int.mul_comm d2 d1]] at g1
  rw [show (a.h - b.l) * (d1 * d2) = a.h * d1 * d2 - b.l * d2 * d1 by rw [Int.sub_mul, Int.mul_assoc, Int.mul_assoc, Int.mul_comm d2 d1]] at g2
  rw [show (n1 * d2 - n2 * d1) * 16777216 = n1 * 16777216 * d2 - n2 * 16777216 * d1 by rw [Int.sub_mul, Int.mul_right_comm n1, Int.mul_right_comm n2]]
  constructor <;> omega
/-- The bounds of a, so many times as great. -/
def sclE (a : En) (d : Int) : En := ⟨0, a.l * d, a.h * d, false⟩
theorem scl_mem {a b : En} {d1 d2 : Int} {p : Int × Int} (h : p ∈ prs4 (sclE a d1) (sclE b d2)) : ∃ q ∈ prs4 a b, p = (q.1 * d1, q.2 * d2) := by
  simp only [prs4, sclE, List.mem_cons, List.not_mem_nil, or_false] at h
  rcases h with h | h | h | h
  · exact ⟨(a.l, b.l), by simp [prs4], h⟩
  · exact ⟨(a.l, b.h), by simp [prs4], h⟩
  · exact ⟨(a.h, b.l), by simp [prs4], h⟩
  · exact ⟨(a.h, b.h), by simp [prs4], h⟩
theorem down_le (x c : Int) (hc : 0 < c) : rnd x c 1 * c ≤ x := by rw [rnd_down]; exact Int.ediv_mul_le x (by omega)
theorem le_up (x c : Int) (hc : 0 < c) : x ≤ rnd x c 2 * c := by
  rw [rnd_up, Int.neg_mul]
  have := Int.ediv_mul_le (-x) (show c ≠ 0 by omega)
  omega
theorem enq_mul {a b : En} {n1 d1 n2 d2 : Int} (hd1 : 0 < d1) (hd2 : 0 < d2) (ha : Enq a n1 d1) (hb : Enq b n2 d2) : Enq (mulE a b) (n1 * n2) (d1 * d2) := by
  rcases ha with ha | ⟨fa, qa⟩
  · exact .inl (told_wrong (.inl ha))
  rcases hb with hb | ⟨fb, qb⟩
  · exact .inl (told_wrong (.inr hb))
  refine enq_told (fine_mul a b) fun _ _ ho => ?_
  have hdd : 0 < d1 * d2 := Int.mul_pos hd1 hd2
  obtain ⟨⟨p, mp, kp⟩, ⟨q, mq, kq⟩⟩ := corners (a := sclE a d1) (b := sclE b d2) (x := n1 * 16777216) (y := n2 * 16777216) ⟨qa.1, qa.2⟩ ⟨qb.1, qb.2⟩
  obtain ⟨p, mp', rfl⟩ := scl_mem mp
  obtain ⟨q, mq', rfl⟩ := scl_mem mq
  dsimp only at kp kq
  have vp := fm_inv (ok_at ho mp').1
  have vq := fm_inv (ok_at ho mq').2
  have l1 := low_le (N := fmN) mp'
  have l2 := le_high (N := fmN) mq'
  rw [vp.2.2.1] at l1
  rw [vq.2.2.1] at l2
  have r1 := down_le (p.1 * p.2) 16777216 (by decide)
  have r2 := le_up (q.1 * q.2) 16777216 (by decide)
  have e : n1 * 16777216 * (n2 * 16777216) = n1 * n2 * 16777216 * 16777216 := by rw [Int.mul_assoc n1, Int.mul_left_comm 16777216 n2, ← Int.mul_assoc, Int.mul_assoc (n1 * n2)]
  rw [e, show p.1 * d1 * (p.2 * d2) = p.1 * p.2 * (d1 * d2) by rw [Int.mul_assoc, Int.mul_left_comm d1, ← Int.mul_assoc]] at kp
  rw [e, show q.1 * d1 * (q.2 * d2) = q.1 * q.2 * (d1 * d2) by rw [Int.mul_assoc, Int.mul_left_comm d1, ← Int.mul_assoc]] at kq
  constructor
  · refine cancel_pos (k := 16777216) (by decide) ?_
    have g1 := Int.mul_le_mul_of_nonneg_right (Int.le_trans (Int.mul_le_mul_of_nonneg_right l1 (show (0 : Int) ≤ 16777216 by decide)) r1) (Int.le_of_lt hdd)
    rw [Int.mul_right_comm]
    exact Int.le_trans g1 kp
  · refine cancel_pos (k := 16777216) (by decide) ?_
    have g2 := Int.mul_le_mul_of_nonneg_right (Int.le_trans r2 (Int.mul_le_mul_of_nonneg_right l2 (show (0 : Int) ≤ 16777216 by decide))) (Int.le_of_lt hdd)
    rw [Int.mul_right_comm (highF fmN (prs4 a b))]
    exact Int.le_trans kq g2
theorem szI_scl {x d : Int} (hd : 0 < d) : szI (x * d) = szI x * d := by
  unfold szI
  by_cases h : x < 0
  · have : x * d < 0 := Int.mul_neg_of_neg_of_pos h hd
    rw [if_pos this, if_pos h, Int.neg_mul]
  · have : ¬ x * d < 0 := by have := Int.mul_nonneg (show 0 ≤ x by omega) (Int.le_of_lt hd); omega
    rw [if_neg this, if_neg h]
theorem qn_mul {x y d e : Int} (he : 0 < e) : qn (x * d) (y * e) = qn x y * d := by
  unfold qn
  by_cases h : y < 0
  · have : y * e < 0 := Int.mul_neg_of_neg_of_pos h he
    rw [if_pos this, if_pos h]
    simp only [Int.neg_mul]
    rw [Int.mul_right_comm]
  · have : ¬ y * e < 0 := by have := Int.mul_nonneg (show 0 ≤ y by omega) (Int.le_of_lt he); omega
    rw [if_neg this, if_neg h, Int.mul_right_comm]
/-- The sign. -/
def sgI (x : Int) : Int := if x < 0 then -1 else 1
theorem qn_sg (x y : Int) : qn x y = x * sgI y * 16777216 := by
  unfold qn sgI
  split
  · rw [Int.mul_neg, Int.mul_one]
  · rw [Int.mul_one]
/-- A quotient: by the parts. -/
theorem enq_div {a b : En} {n1 d1 n2 d2 : Int} (hd1 : 0 < d1) (hd2 : 0 < d2) (ha : Enq a n1 d1) (hb : Enq b n2 d2) : Enq (divE a b) (n1 * sgI n2 * d2) (d1 * szI n2) := by
  unfold divE
  cases hz : zeroB b
  · rw [if_neg (by simp)]
    rcases ha with ha | ⟨fa, qa⟩
    · exact .inl (told_wrong (.inl ha))
    rcases hb with hb | ⟨fb, qb⟩
    · exact .inl (told_wrong (.inr hb))
    have hfd : FineOr (toldE fdN fdB a b (prs4 a b)) := by
      have := fine_div a b
      unfold divE at this
      rw [hz, if_neg (by simp)] at this
      exact this
    refine enq_told hfd fun _ _ ho => ?_
    have hz' : zeroB (sclE b d2) = false := by
      unfold zeroB at hz ⊢
      rw [Bool.and_eq_false_iff] at hz ⊢
      rcases hz with h | h
      · refine .inl (decide_eq_false fun k => ?_)
        have h' := of_decide_eq_false h
        have : 0 < b.l * d2 := Int.mul_pos (by omega) hd2
        have k' : b.l * d2 ≤ 0 := k
        omega
      · refine .inr (decide_eq_false fun k => ?_)
        have h' := of_decide_eq_false h
        have : b.h * d2 < 0 := Int.mul_neg_of_neg_of_pos (by omega) hd2
        have k' : 0 ≤ b.h * d2 := k
        omega
    obtain ⟨⟨p, mp, kp⟩, ⟨q, mq, kq⟩⟩ := qcorners (a := sclE a d1) (b := sclE b d2) (x := n1 * 16777216) (y := n2 * 16777216) hz' ⟨qa.1, qa.2⟩ ⟨qb.1, qb.2⟩
    obtain ⟨p, mp', rfl⟩ := scl_mem mp
    obtain ⟨q, mq', rfl⟩ := scl_mem mq
    dsimp only at kp kq
    have vp := fd_inv (ok_at ho mp').1
    have vq := fd_inv (ok_at ho mq').2
    have l1 := low_le (N := fdN) mp'
    have l2 := le_high (N := fdN) mq'
    rw [vp.2.2.2.1] at l1
    rw [vq.2.2.2.1] at l2
    have sp := szI_pp vp.2.2.1
    have sq := szI_pp vq.2.2.1
    have r1 := down_le (qn p.1 p.2) (szI p.2) sp
    have r2 := le_up (qn q.1 q.2) (szI q.2) sq
    have hU : (0 : Int) < 16777216 := by decide
    rw [qn_mul hd2, szI_scl hU, qn_mul hU, szI_scl hd2, qn_sg n1 n2] at kp kq
    have n20 : n2 ≠ 0 := by
      intro e
      subst e
      have h1 := qb.1
      have h2 := qb.2
      unfold zeroB at hz
      rw [Bool.and_eq_false_iff] at hz
      rcases hz with h | h
      · have h' := of_decide_eq_false h
        have : 0 < b.l * d2 := Int.mul_pos (by omega) hd2
        omega
      · have h' := of_decide_eq_false h
        have : b.h * d2 < 0 := Int.mul_neg_of_neg_of_pos (by omega) hd2
        omega
    have sn := szI_pp n20
    have hdn : 0 < d1 * szI n2 := Int.mul_pos hd1 sn
    generalize n1 * sgI n2 = m at *
    generalize szI n2 = t at *
    generalize hP : qn p.1 p.2 = P at *
    generalize hQ : qn q.1 q.2 = Q at *
    generalize szI p.2 = u at *
    generalize szI q.2 = v at *
    constructor
    · refine cancel_pos sp ?_
      refine cancel_pos hU ?_
      have g1 := Int.mul_le_mul_of_nonneg_right (Int.le_trans (Int.mul_le_mul_of_nonneg_right l1 (Int.le_of_lt sp)) r1) (Int.le_of_lt hdn)
      have g2 := Int.mul_le_mul_of_nonneg_right g1 (Int.le_of_lt hU)
      refine Int.le_trans (Int.le_of_eq ?_) (Int.le_trans g2 (Int.le_trans (Int.le_of_eq ?_) (Int.le_trans kp (Int.le_of_eq ?_))))
      · ac_rfl
      · ac_rfl
      · ac_rfl
    · refine cancel_pos sq ?_
      refine cancel_pos hU ?_
      have g1 := Int.mul_le_mul_of_nonneg_right (Int.le_trans r2 (Int.mul_le_mul_of_nonneg_right l2 (Int.le_of_lt sq))) (Int.le_of_lt hdn)
      have g2 := Int.mul_le_mul_of_nonneg_right g1 (Int.le_of_lt hU)
      refine Int.le_trans (Int.le_of_eq ?_) (Int.le_trans kq (Int.le_trans (Int.le_of_eq ?_) (Int.le_trans g2 (Int.le_of_eq ?_))))
      · ac_rfl
      · ac_rfl
      · ac_rfl
  · rw [if_pos rfl]
    exact .inl rfl
/-- A point encloses what it is. -/
theorem enq_pt {x n d : Int} (hx : frB x = true) (e : x * d = n * 16777216) : Enq (ptE x true) n d :=
  .inr ⟨pt_fine hx, Int.le_of_eq e, Int.le_of_eq e.symm⟩
end Go.Proofs.YthnadgbloamlaaaGreat

/- Whole numbers as points: their sums, products and dots, enclosed (layer 5's laws). Mathematics alone. -/
namespace Go.Proofs.YthnadgbloamlaaaGreat
open Go.RowKit
set_option linter.unusedSimpArgs false
set_option linter.unusedVariables false

/-- It may be one. -/
def Wn (n : Int) : Prop := -67108864 ≤ n ∧ n ≤ 67108864
theorem fr_it {n : Int} (h : Wn n) : frB (n * 16777216) = true := frB_eq (by unfold Wn at h; omega)
end Go.Proofs.YthnadgbloamlaaaGreat

/- Enclosed numbers beside fractions: the same steps of both; what is told of enclosed numbers encloses what is told of fractions, where that may be one. Mathematics alone. -/
namespace Go.Proofs.YthnadgbloamlaaaGreat
open Go.RowKit
set_option linter.unusedSimpArgs false
set_option linter.unusedVariables false

/-- It encloses the fraction, if that may be one; or it is Bad. -/
def EncF (e : En) (f : Fr) : Prop := fineR f = true → Enq e f.n f.d
theorem encF_wrong (e : En) : EncF e wrongR := fun h => by cases h
theorem fine_dp {f : Fr} (h : fineR f = true) : 0 < f.d := by have := fineR_iff.1 h; omega
theorem encF_of {e : En} {q : Rat} {n d : Int} (hd : 0 < d) (hq : q = Rat.divInt n d) (h : Enq e n d) : EncF e (ofQ q) := by
  intro hf
  have hr := fine_dp hf
  have ok : okR q = true := by rw [← ofQ_fine]; exact hf
  have e1 := toQ_ofQ ok
  unfold toQ at e1
  have e2 := (Rat.divInt_eq_divInt_iff (by omega) (by omega)).1 (e1.trans hq)
  exact h.same hd hr e2.symm
theorem encF_add {a b : En} {f g : Fr} (ha : EncF a f) (hb : EncF b g) : EncF (addE a b) (addR f g) := by
  unfold addR
  cases hf : fineR f
  · exact encF_wrong _
  cases hg : fineR g
  · exact encF_wrong _
  have d1 := fine_dp hf
  have d2 := fine_dp hg
  exact encF_of (Int.mul_pos d1 d2) (by unfold toQ; rw [Rat.divInt_add_divInt _ _ (by omega) (by omega)]) (enq_add d1 d2 (ha hf) (hb hg))
theorem encF_sub {a b : En} {f g : Fr} (ha : EncF a f) (hb : EncF b g) : EncF (subE a b) (subR f g) := by
  unfold subR
  cases hf : fineR f
  · exact encF_wrong _
  cases hg : fineR g
  · exact encF_wrong _
  have d1 := fine_dp hf
  have d2 := fine_dp hg
  exact encF_of (Int.mul_pos d1 d2) (by unfold toQ; rw [Rat.divInt_sub_divInt _ _ (by omega) (by omega)]) (enq_sub d1 d2 (ha hf) (hb hg))
theorem encF_mul {a b : En} {f g : Fr} (ha : EncF a f) (hb : EncF b g) : EncF (mulE a b) (mulR f g) := by
  unfold mulR
  cases hf : fineR f
  · exact encF_wrong _
  cases hg : fineR g
  · exact encF_wrong _
  have d1 := fine_dp hf
  have d2 := fine_dp hg
  exact encF_of (Int.mul_pos d1 d2) (by unfold toQ; rw [Rat.divInt_mul_divInt]) (enq_mul d1 d2 (ha hf) (hb hg))
theorem encF_div {a b : En} {f g : Fr} (ha : EncF a f) (hb : EncF b g) : EncF (divE a b) (divR f g) := by
  cases hf : fineR f
  · unfold divR; rw [hf]; exact encF_wrong _
  cases hg : fineR g
  · unfold divR; rw [hf, hg]; exact encF_wrong _
  by_cases h0 : g.n = 0
  · unfold divR; rw [hf, hg, show decide (g.n ≠ 0) = false by simp [h0]]; exact encF_wrong _
  have d1 := fine_dp hf
  have d2 := fine_dp hg
  rw [divR_fine hf hg h0]
  refine encF_of (Int.mul_pos d1 (szI_pp h0)) ?_ (enq_div d1 d2 (ha hf) (hb hg))
  unfold toQ
  rw [Rat.div_def, Rat.inv_divInt, Rat.divInt_mul_divInt]
  unfold sgI szI
  by_cases hn : g.n < 0
  · rw [if_pos hn, if_pos hn, ← Rat.neg_divInt_neg]
    rw [Int.mul_neg, Int.mul_neg, Int.mul_one, Int.neg_mul]
  · rw [if_neg hn, if_neg hn, Int.mul_one]
theorem encF_whole (n : Int) : EncF (wholeN n) (wholeF n) := by
  unfold wholeF newR lowR
  by_cases hg : (gvB n && gvB 1) = true
  · rw [if_pos hg, if_neg (by decide)]
    refine encF_of (d := 1) (by decide) rfl ?_
    unfold wholeN
    cases hb : foB n
    · exact .inl rfl
    · have hw : Wn n := by unfold foB at hb; simp at hb; exact ⟨by omega, by omega⟩
      rw [show foN n = n * 16777216 by unfold foN; rw [hb]; rfl]
      exact enq_pt (fr_it hw) (by omega)
  · rw [if_neg hg]; exact encF_wrong _
/-- Row beside row. -/
def EncL : List En → List Fr → Prop
  | [], [] => True
  | e :: es, f :: fs => EncF e f ∧ EncL es fs
  | _, _ => False
theorem encL_of : ∀ {es : List En} {fs : List Fr}, es.length = fs.length → (∀ (k : Nat) (e : En) (f : Fr), es[k]? = some e → fs[k]? = some f → EncF e f) → EncL es fs
  | [], [], _, _ => trivial
  | e :: es, f :: fs, hl, h => ⟨h 0 e f rfl rfl, encL_of (by simpa using hl) fun k e' f' h1 h2 => h (k + 1) e' f' (by simpa using h1) (by simpa using h2)⟩
  | [], _ :: _, hl, _ => by simp at hl
  | _ :: _, [], hl, _ => by simp at hl
theorem encL_mul : ∀ {us : List En} {fs : List Fr} {bs : List En} {gs : List Fr}, EncL us fs → EncL bs gs → EncL (List.zipWith mulE us bs) (List.zipWith mulR fs gs)
  | [], [], _, _, _, _ => trivial
  | _ :: _, _ :: _, [], [], _, _ => trivial
  | _ :: us, _ :: fs, _ :: bs, _ :: gs, h, k => ⟨encF_mul h.1 k.1, encL_mul h.2 k.2⟩
  | [], _ :: _, _, _, h, _ => h.elim
  | _ :: _, [], _, _, h, _ => h.elim
  | _ :: _, _ :: _, [], _ :: _, _, k => k.elim
  | _ :: _, _ :: _, _ :: _, [], _, k => k.elim
theorem encF_fold : ∀ {es : List En} {fs : List Fr} {e : En} {f : Fr}, EncL es fs → EncF e f → EncF (es.foldl addE e) (fs.foldl addR f)
  | [], [], _, _, _, h => h
  | _ :: es, _ :: fs, _, _, hl, h => by simp only [List.foldl_cons]; exact encF_fold hl.2 (encF_add h hl.1)
  | [], _ :: _, _, _, h, _ => h.elim
  | _ :: _, [], _, _, h, _ => h.elim
theorem encF_sum {es : List En} {fs : List Fr} (h : EncL es fs) : EncF (sumN es) (sumF fs) := encF_fold h (encF_whole 0)
theorem encF_dot {us : List En} {fs : List Fr} {bs : List En} {gs : List Fr} (h : EncL us fs) (k : EncL bs gs) : EncF (dotN us bs) (dotF fs gs) := encF_sum (encL_mul h k)
/-- What env.Encloses asks, of a fraction. -/
theorem EncF.told {e : En} {f : Fr} (h : EncF e f) (hf : fineR f = true) (hb : e ≠ wrongE) : fineB e = true ∧ e.l * f.d ≤ f.n * 16777216 ∧ f.n * 16777216 ≤ e.h * f.d := by
  rcases h hf with h | ⟨h1, h2⟩
  · exact absurd h hb
  · exact ⟨h1, h2.1, h2.2⟩
end Go.Proofs.YthnadgbloamlaaaGreat

/- Layer 9's words of enclosed numbers enclose those of fractions; and a list of ones that enclose. Mathematics alone. -/
namespace Go.Proofs.YthnadgbloamlaaaGreat
open Go.RowKit
set_option linter.unusedSimpArgs false
set_option linter.unusedVariables false

theorem ofQ_badV (q : Rat) : fineR (ofQ q) = !(ofQ q).bad := by
  cases h : okR q
  · rw [ofQ_no h]; rfl
  · rw [ofQ_fine, h, ofQ_ok h]; rfl
theorem add_badV (a b : Fr) : fineR (addR a b) = !(addR a b).bad := by
  unfold addR
  split
  · exact ofQ_badV _
  · rfl
theorem sub_badV (a b : Fr) : fineR (subR a b) = !(subR a b).bad := by
  unfold subR
  split
  · exact ofQ_badV _
  · rfl
theorem encl_enqV {a : En} {n d : Int} (h : Enq a n d) (hn : Wh n) (hd : 1 ≤ d ∧ d ≤ 1073741824) (hb : a.bad = false) : enclB a n d = true := by
  rcases h with rfl | ⟨hf, h1, h2⟩
  · cases hb
  · have r1 : rightB n = true := by unfold rightB; simp; have := hn.1; have := hn.2; omega
    have r2 : rightB d = true := by unfold rightB; simp; omega
    unfold enclB withinB
    rw [hf, r1, r2]
    simp [h1, h2, hd.1]
theorem enc_lin9 {n : Nat} {x : Nat → En} {y : Nat → Fr} (h : ∀ i, i < n → EncF (x i) (y i)) : EncL (linJ n x) (linJ n y) := encL_of (by rw [linJ_len, linJ_len]) fun k e f he hf => by
  have hk : k < n := by have := (List.getElem?_eq_some_iff.1 he).1; rwa [linJ_len] at this
  rw [linJ_get _ hk] at he hf
  cases he
  cases hf
  exact h k hk
theorem enc_row9 {n : Nat} {f : Nat → Nat → En} {g : Nat → Nat → Fr} (i : Nat) (h : ∀ k, k < n → EncF (f i k) (g i k)) : EncL (rowM n f i) (rowM n g i) := by
  rw [linJ_row, linJ_row]
  exact enc_lin9 h
theorem enc_mulK9 {n : Nat} {a b : Nat → Nat → En} {a' b' : Nat → Nat → Fr} {i k : Nat} (ha : ∀ c, c < n → EncF (a i c) (a' i c)) (hb : ∀ c, c < n → EncF (b c k) (b' c k)) : EncF (mulK kdN n a b i k) (mulK kdF n a' b' i k) :=
  encF_dot (enc_row9 i ha) (enc_lin9 (x := fun c => b c k) (y := fun c => b' c k) hb)
theorem enc_around9 {n : Nat} {m p : Nat → Nat → En} {m' p' : Nat → Nat → Fr} {i k : Nat} (hi : i < n) (hk : k < n) (hm : ∀ i k, i < n → k < n → EncF (m i k) (m' i k)) (hp : ∀ i k, i < n → k < n → EncF (p i k) (p' i k)) : EncF (aroundJ kdN n m p i k) (aroundJ kdF n m' p' i k) :=
  enc_mulK9 (fun c hc => enc_mulK9 (fun d hd => hm i d hi hd) (fun d hd => hp d c hd hc)) (fun c hc => hm k c hk hc)
theorem enc_square9 {n : Nat} {g : Nat → Nat → En} {g' : Nat → Nat → Fr} {i k : Nat} (hi : i < n) (hk : k < n) (hg : ∀ i k, i < n → k < n → EncF (g i k) (g' i k)) : EncF (squareJ kdN n g i k) (squareJ kdF n g' i k) :=
  enc_mulK9 (fun c hc => hg _ c (by omega) hc) (fun c hc => hg _ c (by omega) hc)
theorem enc_app9 {n : Nat} {f : Nat → Nat → En} {f' : Nat → Nat → Fr} {x : Nat → En} {x' : Nat → Fr} {i : Nat} (hi : i < n) (hf : ∀ i k, i < n → k < n → EncF (f i k) (f' i k)) (hx : ∀ i, i < n → EncF (x i) (x' i)) : EncF (appJ kdN n f x i) (appJ kdF n f' x' i) :=
  encF_dot (enc_row9 i fun k hk => hf i k hi hk) (enc_lin9 hx)
theorem enc_pred9 {n : Nat} {f p g : Nat → Nat → En} {f' p' g' : Nat → Nat → Fr} {i k : Nat} (hi : i < n) (hk : k < n) (hf : ∀ i k, i < n → k < n → EncF (f i k) (f' i k)) (hp : ∀ i k, i < n → k < n → EncF (p i k) (p' i k)) (hg : ∀ i k, i < n → k < n → EncF (g i k) (g' i k)) : EncF (predJ kdN n f p g i k) (predJ kdF n f' p' g' i k) :=
  encF_add (enc_around9 (by omega) (by omega) hf hp) (enc_square9 (by omega) (by omega) hg)
theorem enc_outer9 {c r : Nat → En} {c' r' : Nat → Fr} {i k : Nat} (hc : EncF (c i) (c' i)) (hr : EncF (r k) (r' k)) : EncF (outerJ kdN c r i k) (outerJ kdF c' r' i k) :=
  encF_dot (enc_lin9 (n := 1) (x := fun _ => c i) (y := fun _ => c' i) fun _ _ => hc) (enc_lin9 (n := 1) (x := fun _ => r k) (y := fun _ => r' k) fun _ _ => hr)
structure EncUp (n : Nat) (x : Nat → En) (x' : Nat → Fr) (p : Nat → Nat → En) (p' : Nat → Nat → Fr) (h : Nat → En) (h' : Nat → Fr) (r z : En) (r' z' : Fr) (one : Nat → Nat → En) (one' : Nat → Nat → Fr) : Prop where
  spread : EncF (spreadJ kdN n p h r) (spreadJ kdF n p' h' r')
  surp : EncF (surpJ kdN n x h z) (surpJ kdF n x' h' z')
  x : ∀ i, i < n → EncF (upXJ kdN n x p h r z i) (upXJ kdF n x' p' h' r' z' i)
  p : ∀ i k, i < n → k < n → EncF (upPJ kdN one n p h r i k) (upPJ kdF one' n p' h' r' i k)
theorem enc_up9 {n : Nat} {x : Nat → En} {x' : Nat → Fr} {p : Nat → Nat → En} {p' : Nat → Nat → Fr} {h : Nat → En} {h' : Nat → Fr} {r z : En} {r' z' : Fr} {one : Nat → Nat → En} {one' : Nat → Nat → Fr} (hx : ∀ i, i < n → EncF (x i) (x' i)) (hp : ∀ i k, i < n → k < n → EncF (p i k) (p' i k)) (hh : ∀ i, i < n → EncF (h i) (h' i))
    (hr : EncF r r') (hz : EncF z z') (ho : ∀ i k, i < n → k < n → EncF (one i k) (one' i k)) : EncUp n x x' p p' h h' r z r' z' one one' := by
  have u : ∀ i, i < n → EncF (appJ kdN n p h i) (appJ kdF n p' h' i) := fun i hi => enc_app9 hi hp hh
  have sp : EncF (spreadJ kdN n p h r) (spreadJ kdF n p' h' r') := encF_add (encF_dot (enc_lin9 hh) (enc_lin9 u)) hr
  have g : ∀ i, i < n → EncF (gainJ kdN n p h r i) (gainJ kdF n p' h' r' i) := fun i hi => encF_div (u i hi) sp
  have su : EncF (surpJ kdN n x h z) (surpJ kdF n x' h' z') := encF_sub hz (encF_dot (enc_lin9 hh) (enc_lin9 hx))
  have re : ∀ i k, i < n → k < n → EncF (restJ kdN one (gainJ kdN n p h r) h i k) (restJ kdF one' (gainJ kdF n p' h' r') h' i k) := fun i k hi hk => encF_sub (ho i k hi hk) (enc_outer9 (g i hi) (hh k hk))
  exact ⟨sp, su, fun i hi => encF_add (hx i hi) (encF_mul (g i hi) su), fun i k hi hk => encF_add (enc_around9 (by omega) (by omega) re hp) (enc_outer9 (c := fun i => mulE (gainJ kdN n p h r i) r) (c' := fun i => mulR (gainJ kdF n p' h' r' i) r') (encF_mul (g _ (by omega)) hr) (g _ (by omega)))⟩
/-- What Within asks of one of the numbers. -/
def With9 (e : En) (f : Fr) : Prop := f.bad = false → e.bad = false → enclB e f.n f.d = true
theorem with9_of {e : En} {f : Fr} (h : EncF e f) (ht : fineR f = !f.bad) : With9 e f := fun hf he => by
  have hfi : fineR f = true := by rw [ht, hf]; rfl
  have k := fineR_iff.1 hfi
  exact encl_enqV (h hfi) ⟨by omega, by omega⟩ ⟨by omega, by omega⟩ he
theorem sum_bad9 (l : List Fr) : fineR (sumF l) = !(sumF l).bad := by
  have : ∀ (l : List Fr) (x : Fr), fineR x = !x.bad → fineR (l.foldl addR x) = !(l.foldl addR x).bad := by
    intro l
    induction l with
    | nil => exact fun x h => h
    | cons a l ih => exact fun x _ => ih _ (add_badV x a)
  exact this l _ (by rw [new_it ⟨by decide, by decide⟩]; rfl)
theorem dot_bad9 (a b : List Fr) : fineR (dotF a b) = !(dotF a b).bad := sum_bad9 _
theorem rq_get9 {α : Type} {s : Nat} {c : α → List Value} {w : World} {p : Option Addr} {n cap : Nat} {xs : List α} (h : Rq s c w (.slice p n cap) xs) (h1 : xs ≠ []) : ∃ b o, p = some ⟨b, o, none⟩ ∧ ∀ u, Bl w u → ∀ k x, xs[k]? = some x → ∀ j v, (c x)[j]? = some v → u.cell? ⟨b, o + k * s + j, none⟩ = some v := by
  rcases h with ⟨p', cap', e, hx, _⟩ | ⟨b, o, cap', e, hc, hb, hx⟩
  · exact absurd hx h1
  · simp only [Value.slice.injEq] at e
    exact ⟨b, o, e.1, fun u hu k x hk j v hj => (bl_cell hu _ _ hb).trans (hx k x hk j v hj)⟩
theorem idx9e {R j : Nat} (h : j < R * R) : ∃ i k, i < R ∧ k < R ∧ j = i * R + k := by
  have h0 : 0 < R := by
    rcases Nat.eq_zero_or_pos R with e | e
    · subst e; simp at h
    · exact e
  exact ⟨j / R, j % R, (Nat.div_lt_iff_lt_mul h0).2 h, Nat.mod_lt _ h0, by rw [Nat.mul_comm]; exact (Nat.div_add_mod j R).symm⟩
theorem within_lin9 {n : Nat} {x : Nat → En} {y : Nat → Fr} (h : ∀ i, i < n → With9 (x i) (y i)) (k : Nat) (a : En) (b : Fr) (ha : (linJ n x)[k]? = some a) (hb : (linJ n y)[k]? = some b) : With9 a b := by
  have hk : k < n := by have := (List.getElem?_eq_some_iff.1 ha).1; rwa [linJ_len] at this
  rw [linJ_get _ hk] at ha hb
  cases ha
  cases hb
  exact h k hk
theorem within_mk9 {n : Nat} {f : Nat → Nat → En} {g : Nat → Nat → Fr} (h : ∀ i k, i < n → k < n → With9 (f i k) (g i k)) (j : Nat) (a : En) (b : Fr) (ha : (mk n n f)[j]? = some a) (hb : (mk n n g)[j]? = some b) : With9 a b := by
  have hj : j < n * n := by have := (List.getElem?_eq_some_iff.1 ha).1; rwa [mk_len] at this
  obtain ⟨i, k, hi, hk, rfl⟩ := idx9e hj
  rw [mk_get _ hi hk] at ha hb
  cases ha
  cases hb
  exact h i k hi hk
theorem within_two9 {a b : En} {c d : Fr} (h1 : With9 a c) (h2 : With9 b d) (k : Nat) (x : En) (y : Fr) (hx : ([a, b] : List En)[k]? = some x) (hy : ([c, d] : List Fr)[k]? = some y) : With9 x y := by
  rcases k with _ | _ | k
  · cases hx; cases hy; exact h1
  · cases hx; cases hy; exact h2
  · simp at hx
/-- All that JosephEncloses asks. -/
structure EncAll9 (m : Nat) (X H Ro Fm Gm : List Int) (r z : Int) : Prop where
  e1 : ∀ i, i < m → With9 (appJ kdN m (fun i k => wholeN (ofL m Fm i k)) (fun i => wholeN (X.getD i 0)) i) (appJ kdF m (fun i k => wholeF (ofL m Fm i k)) (fun i => wholeF (X.getD i 0)) i)
  e2 : ∀ i k, i < m → k < m → With9 (predJ kdN m (fun i k => wholeN (ofL m Fm i k)) (squareJ kdN m (fun i k => wholeN (ofL m Ro i k))) (fun i k => wholeN (ofL m Gm i k)) i k) (predJ kdF m (fun i k => wholeF (ofL m Fm i k)) (squareJ kdF m (fun i k => wholeF (ofL m Ro i k))) (fun i k => wholeF (ofL m Gm i k)) i k)
  e3 : ∀ i, i < m → With9 (upXJ kdN m (appJ kdN m (fun i k => wholeN (ofL m Fm i k)) (fun i => wholeN (X.getD i 0))) (predJ kdN m (fun i k => wholeN (ofL m Fm i k)) (squareJ kdN m (fun i k => wholeN (ofL m Ro i k))) (fun i k => wholeN (ofL m Gm i k))) (fun i => wholeN (H.getD i 0)) (ptE (foN r) (foB r)) (ptE (foN z) (foB z)) i)
    (upXJ kdF m (appJ kdF m (fun i k => wholeF (ofL m Fm i k)) (fun i => wholeF (X.getD i 0))) (predJ kdF m (fun i k => wholeF (ofL m Fm i k)) (squareJ kdF m (fun i k => wholeF (ofL m Ro i k))) (fun i k => wholeF (ofL m Gm i k))) (fun i => wholeF (H.getD i 0)) (newR r 1) (newR z 1) i)
  e4 : ∀ i k, i < m → k < m → With9 (upPJ kdN (fun i j => wholeN (unitI i j)) m (predJ kdN m (fun i k => wholeN (ofL m Fm i k)) (squareJ kdN m (fun i k => wholeN (ofL m Ro i k))) (fun i k => wholeN (ofL m Gm i k))) (fun i => wholeN (H.getD i 0)) (ptE (foN r) (foB r)) i k)
    (upPJ kdF (fun i j => wholeF (unitI i j)) m (predJ kdF m (fun i k => wholeF (ofL m Fm i k)) (squareJ kdF m (fun i k => wholeF (ofL m Ro i k))) (fun i k => wholeF (ofL m Gm i k))) (fun i => wholeF (H.getD i 0)) (newR r 1) i k)
  e5 : With9 (surpJ kdN m (appJ kdN m (fun i k => wholeN (ofL m Fm i k)) (fun i => wholeN (X.getD i 0))) (fun i => wholeN (H.getD i 0)) (ptE (foN z) (foB z))) (surpJ kdF m (appJ kdF m (fun i k => wholeF (ofL m Fm i k)) (fun i => wholeF (X.getD i 0))) (fun i => wholeF (H.getD i 0)) (newR z 1))
  e6 : With9 (spreadJ kdN m (predJ kdN m (fun i k => wholeN (ofL m Fm i k)) (squareJ kdN m (fun i k => wholeN (ofL m Ro i k))) (fun i k => wholeN (ofL m Gm i k))) (fun i => wholeN (H.getD i 0)) (ptE (foN r) (foB r))) (spreadJ kdF m (predJ kdF m (fun i k => wholeF (ofL m Fm i k)) (squareJ kdF m (fun i k => wholeF (ofL m Ro i k))) (fun i k => wholeF (ofL m Gm i k))) (fun i => wholeF (H.getD i 0)) (newR r 1))
theorem enc_all9 (m : Nat) (X H Ro Fm Gm : List Int) (r z : Int) : EncAll9 m X H Ro Fm Gm r z := by
  have hx : ∀ i, i < m → EncF (appJ kdN m (fun i k => wholeN (ofL m Fm i k)) (fun i => wholeN (X.getD i 0)) i) (appJ kdF m (fun i k => wholeF (ofL m Fm i k)) (fun i => wholeF (X.getD i 0)) i) := fun i hi => enc_app9 hi (fun _ _ _ _ => encF_whole _) (fun _ _ => encF_whole _)
  have hp : ∀ i k, i < m → k < m → EncF (predJ kdN m (fun i k => wholeN (ofL m Fm i k)) (squareJ kdN m (fun i k => wholeN (ofL m Ro i k))) (fun i k => wholeN (ofL m Gm i k)) i k) (predJ kdF m (fun i k => wholeF (ofL m Fm i k)) (squareJ kdF m (fun i k => wholeF (ofL m Ro i k))) (fun i k => wholeF (ofL m Gm i k)) i k) := fun i k hi hk => enc_pred9 hi hk (fun _ _ _ _ => encF_whole _) (fun _ _ h1 h2 => enc_square9 h1 h2 fun _ _ _ _ => encF_whole _) (fun _ _ _ _ => encF_whole _)
  have U := enc_up9 (h := fun i => wholeN (H.getD i 0)) (h' := fun i => wholeF (H.getD i 0)) (r := ptE (foN r) (foB r)) (r' := newR r 1) (z := ptE (foN z) (foB z)) (z' := newR z 1) (one := fun i j => wholeN (unitI i j)) (one' := fun i j => wholeF (unitI i j)) hx hp (fun _ _ => encF_whole _) (encF_whole r) (encF_whole z) (fun _ _ _ _ => encF_whole _)
  exact ⟨fun i hi => with9_of (hx i hi) (dot_bad9 _ _), fun i k hi hk => with9_of (hp i k hi hk) (add_badV _ _), fun i hi => with9_of (U.x i hi) (add_badV _ _), fun i k hi hk => with9_of (U.p i k hi hk) (add_badV _ _), with9_of U.surp (sub_badV _ _), with9_of U.spread (add_badV _ _)⟩
end Go.Proofs.YthnadgbloamlaaaGreat

/- Within of layer 9's laws. -/
namespace Go.Proofs.YthnadgbloamlaaaGreat
open Go.RowKit
set_option linter.unusedSimpArgs false
set_option linter.unusedVariables false

set_option maxRecDepth 100000 in
set_option maxHeartbeats 4000000 in
theorem within9_any (n : Nat) (pa pb : Option Addr) (ca cb : Nat) (xs : List En) (ys : List Fr) (w : World) (ha : Rq 4 cellsN w (.slice pa n ca) xs) (hb : Rq 3 cellsF w (.slice pb n cb) ys) (la : xs.length = n) (lb : ys.length = n) (hn : n ≤ 1000)
    (hw : ∀ (k : Nat) (x : En) (y : Fr), xs[k]? = some x → ys[k]? = some y → With9 x y) : Calls Tryz.prog 40 #[.slice pa n ca, .slice pb n cb] w fun e w' => e = .returned (.bool true) ∧ Bl w w' := by
  have fm : Tryz.prog.follows .mixedOrders = true := by kernel_rfl
  by_cases h0 : n = 0
  · subst h0
    go_enter Tryz.func40, Tryz.ntmps40
    go_wp2_with fail
    go_loopw [14] (fun v wr => v = .int .i64 0 ∧ wr = w) (fun v _ => 0)
    case atStart => exact ⟨rfl, rfl⟩
    case round =>
      obtain ⟨rfl, rfl⟩ := hrel
      go_wp2
      go_ret
      exact ⟨rfl, Bl.refl _⟩
  obtain ⟨ga, oa, rfl, CA⟩ := rq_get9 ha (by intro e; rw [e] at la; simp at la; omega)
  obtain ⟨gb, ob, rfl, CB⟩ := rq_get9 hb (by intro e; rw [e] at lb; simp at lb; omega)
  have HA := hideP CA
  have HB := hideP CB
  have HW := hideP hw
  have HLA := hideP la
  have HLB := hideP lb
  clear CA CB hw la lb ha hb
  go_enter Tryz.func40, Tryz.ntmps40
  go_wp2_with fail
  go_loopw [14] (fun v wr => ∃ k : Nat, v = .int .i64 k ∧ k ≤ n ∧ Bl w wr) (fun v _ => n - (intOf v).toNat)
  case atStart => exact ⟨0, rfl, Nat.zero_le _, Bl.refl _⟩
  case round =>
    obtain ⟨k, rfl, hk, bl⟩ := hrel
    by_cases hlt : k < n
    · obtain ⟨x, hx⟩ : ∃ x, xs[k]? = some x := ⟨_, List.getElem?_eq_getElem (by rw [HLA.out]; exact hlt)⟩
      obtain ⟨y, hy⟩ : ∃ y, ys[k]? = some y := ⟨_, List.getElem?_eq_getElem (by rw [HLB.out]; exact hlt)⟩
      have WI := HW.out k x y hx hy
      have CX := fun u hu => HA.out u hu k x hx
      have CY := HB.out wr bl k y hy
      obtain ⟨W1, hW1⟩ : ∃ W1, W1 = wr.alloc (.cells #[.int .i64 y.n, .int .i64 y.d, .bool y.bad] 64) := ⟨_, rfl⟩
      have b1 : Bl wr W1 := by rw [hW1]; exact (Bl.refl _).alloc _
      have k1 : FBox W1 wr.heap.size y := by rw [hW1]; exact FBox.new wr y _
      have y0 : wr.cell? ⟨gb, ob + k * 3, none⟩ = some (.int .i64 y.n) := by simpa using CY 0 _ rfl
      have y1 : wr.cell? ⟨gb, ob + k * 3 + 1, none⟩ = some (.int .i64 y.d) := by simpa using CY 1 _ rfl
      have y2 : wr.cell? ⟨gb, ob + k * 3 + 2, none⟩ = some (.bool y.bad) := by simpa using CY 2 _ rfl
      have HW1 := hideP hW1
      clear hW1 hx hy CY
      go_wp2_with fail
      rw [← HW1.out]
      clear y0 y1 y2
      have ENC := hideP (fun z : Wl W1 => encl_any x y.n y.d z.w)
      have x0 : ∀ z : Wl W1, z.w.cell? ⟨ga, oa + k * 4, none⟩ = some (.int .i64 x.v) := fun z => by simpa using CX z.w ((bl.trans b1).trans z.bl) 0 _ rfl
      have x1 : ∀ z : Wl W1, z.w.cell? ⟨ga, oa + k * 4 + 1, none⟩ = some (.int .i64 x.l) := fun z => by simpa using CX z.w ((bl.trans b1).trans z.bl) 1 _ rfl
      have x2 : ∀ z : Wl W1, z.w.cell? ⟨ga, oa + k * 4 + 2, none⟩ = some (.int .i64 x.h) := fun z => by simpa using CX z.w ((bl.trans b1).trans z.bl) 2 _ rfl
      have x3 : ∀ z : Wl W1, z.w.cell? ⟨ga, oa + k * 4 + 3, none⟩ = some (.bool x.bad) := fun z => by simpa using CX z.w ((bl.trans b1).trans z.bl) 3 _ rfl
      have z0 := fun z : Wl W1 => (k1.later z.bl).c0
      have z1 := fun z : Wl W1 => (k1.later z.bl).c1
      have z2 := fun z : Wl W1 => (k1.later z.bl).c2
      have wne := wl_ne W1
      clear CX
      obtain ⟨xv, xl, xh, xb⟩ := x
      obtain ⟨yn, yd, yb⟩ := y
      dsimp only at x0 x1 x2 x3 z0 z1 z2
      cases yb
      · cases xb
        · have WE : enclB ⟨xv, xl, xh, false⟩ yn yd = true := WI rfl rfl
          rw [WE] at ENC
          clear WI WE
          refine wl_region W1 (Bl.refl _) (by kernel_rfl) (by kernel_rfl) ?_
          repeat (go_big_quiet_step (first | (go_at_call 59; exact wl_call (ENC.out _))))
          refine wpQuiet_nil ?_
          intro _ hw'
          obtain ⟨z, hw''⟩ := hw'
          subst hw''
          clear wne x0 x1 x2 x3 z0 z1 z2
          obtain ⟨wz, hz⟩ := z
          dsimp only
          go_wp2
          go_roundw
          case rel => exact ⟨k + 1, by simp, hlt, (bl.trans b1).trans hz⟩
          case measure => simp [intOf]; omega
        · clear WI ENC
          refine wl_region W1 (Bl.refl _) (by kernel_rfl) (by kernel_rfl) ?_
          repeat (go_big_quiet_step (first | (go_at_call 59; exact wl_call (ENC.out _))))
          refine wpQuiet_nil ?_
          intro _ hw'
          obtain ⟨z, hw''⟩ := hw'
          subst hw''
          clear wne x0 x1 x2 x3 z0 z1 z2
          obtain ⟨wz, hz⟩ := z
          dsimp only
          go_wp2
          go_roundw
          case rel => exact ⟨k + 1, by simp, hlt, (bl.trans b1).trans hz⟩
          case measure => simp [intOf]; omega
      · clear WI ENC
        refine wl_region W1 (Bl.refl _) (by kernel_rfl) (by kernel_rfl) ?_
        repeat (go_big_quiet_step (first | (go_at_call 59; exact wl_call (ENC.out _))))
        refine wpQuiet_nil ?_
        intro _ hw'
        obtain ⟨z, hw''⟩ := hw'
        subst hw''
        clear wne x0 x1 x2 x3 z0 z1 z2
        obtain ⟨wz, hz⟩ := z
        dsimp only
        go_wp2
        go_roundw
        case rel => exact ⟨k + 1, by simp, hlt, (bl.trans b1).trans hz⟩
        case measure => simp [intOf]; omega
    · obtain rfl : k = n := by omega
      go_wp2
      go_ret
      exact ⟨rfl, bl⟩
end Go.Proofs.YthnadgbloamlaaaGreat

/- The walk of JosephEncloses. Our own tool writes it. -/
namespace Go.Proofs.YthnadgbloamlaaaGreat
open Go.RowKit
set_option linter.unusedSimpArgs false
set_option linter.unusedVariables false

theorem rq_two9F (w : World) (x y : Fr) (t : TypeId) : Rq 3 cellsF (w.alloc (.cells #[.int .i64 x.n, .int .i64 x.d, .bool x.bad, .int .i64 y.n, .int .i64 y.d, .bool y.bad] t)) (.slice (some ⟨w.heap.size, 0, none⟩) 2 2) [x, y] := by
  refine .inr ⟨w.heap.size, 0, 2, rfl, Nat.le_refl _, by simp, fun j v hj k s hs => ?_⟩
  rcases j with _ | _ | j
  · cases hj
    rcases k with _ | _ | _ | k <;> simp [cellsF] at hs <;> subst hs <;> simp [go_sem]
  · cases hj
    rcases k with _ | _ | _ | k <;> simp [cellsF] at hs <;> subst hs <;> simp [go_sem]
  · simp at hj
theorem rq_two9N (w : World) (x y : En) (t : TypeId) : Rq 4 cellsN (w.alloc (.cells #[.int .i64 x.v, .int .i64 x.l, .int .i64 x.h, .bool x.bad, .int .i64 y.v, .int .i64 y.l, .int .i64 y.h, .bool y.bad] t)) (.slice (some ⟨w.heap.size, 0, none⟩) 2 2) [x, y] := by
  refine .inr ⟨w.heap.size, 0, 2, rfl, Nat.le_refl _, by simp, fun j v hj k s hs => ?_⟩
  rcases j with _ | _ | j
  · cases hj
    rcases k with _ | _ | _ | _ | k <;> simp [cellsN] at hs <;> subst hs <;> simp [go_sem]
  · cases hj
    rcases k with _ | _ | _ | _ | k <;> simp [cellsN] at hs <;> subst hs <;> simp [go_sem]
  · simp at hj
set_option maxRecDepth 100000 in
set_option maxHeartbeats 16000000 in
theorem walk_JosephEncloses (n r z : Int) (vx vr vf vg vh : Value) (X Ro Fm Gm H : List Int) (w : World) (hX : Rq 1 cI w vx X) (hR : Rq 1 cI w vr Ro) (hF : Rq 1 cI w vf Fm) (hG : Rq 1 cI w vg Gm) (hH : Rq 1 cI w vh H) :
    Calls Tryz.prog 6 #[.agg #[.int .i64 n, vx, vr, vf, vg, vh, .int .i64 r, .int .i64 z]] w fun e w' => e = .returned (.bool true) ∧ Bl w w' := by
  have fm : Tryz.prog.follows .mixedOrders = true := by kernel_rfl
  have egQ := enters_of Tryz.func34 (by kernel_rfl) rfl
  have egS := enters_of Tryz.func31 (by kernel_rfl) rfl
  have egWF := enters_of Tryz.func33 (by kernel_rfl) rfl
  have egWN := enters_of Tryz.func37 (by kernel_rfl) rfl
  have egNN := enters_of Tryz.func36 (by kernel_rfl) rfl
  have egUF := enters_of Tryz.func32 (by kernel_rfl) rfl
  have egUN := enters_of Tryz.func25 (by kernel_rfl) rfl
  have egD := enters_of Tryz.func30 (by kernel_rfl) rfl
  have egP := enters_of Tryz.func38 (by kernel_rfl) rfl
  have egO := enters_of Tryz.func39 (by kernel_rfl) rfl
  have AW := hideP awake9_any
  obtain ⟨px, cx, rfl, _, _⟩ := hX.cut
  obtain ⟨pr, cr, rfl, _, _⟩ := hR.cut
  obtain ⟨pf, cf, rfl, _, _⟩ := hF.cut
  obtain ⟨pg, cg, rfl, _, _⟩ := hG.cut
  obtain ⟨ph, ch, rfl, _, _⟩ := hH.cut
  obtain ⟨lx, hlx⟩ : ∃ l, l = X.length := ⟨_, rfl⟩
  obtain ⟨lr, hlr⟩ : ∃ l, l = Ro.length := ⟨_, rfl⟩
  obtain ⟨lf, hlf⟩ : ∃ l, l = Fm.length := ⟨_, rfl⟩
  obtain ⟨lg, hlg⟩ : ∃ l, l = Gm.length := ⟨_, rfl⟩
  obtain ⟨lh, hlh⟩ : ∃ l, l = H.length := ⟨_, rfl⟩
  rw [← hlx] at hX
  rw [← hlr] at hR
  rw [← hlf] at hF
  rw [← hlg] at hG
  rw [← hlh] at hH
  rw [← hlx, ← hlr, ← hlf, ← hlg, ← hlh]
  obtain ⟨W, hW⟩ : ∃ W, W = w.alloc (.cells #[.int .i64 n, .slice px lx cx, .slice pr lr cr, .slice pf lf cf, .slice pg lg cg, .slice ph lh ch, .int .i64 r, .int .i64 z] 56) := ⟨_, rfl⟩
  have b0 : Bl w W := by rw [hW]; exact (Bl.refl _).alloc _
  have lt0 : w.heap.size < W.heap.size := by rw [hW]; simp
  have HC := hideP (show ∀ u, Bl W u → u.cell? ⟨w.heap.size, 0, none⟩ = some (.int .i64 n) ∧ u.cell? ⟨w.heap.size, 1, none⟩ = some (.slice px lx cx) ∧ u.cell? ⟨w.heap.size, 2, none⟩ = some (.slice pr lr cr) ∧ u.cell? ⟨w.heap.size, 3, none⟩ = some (.slice pf lf cf) ∧ u.cell? ⟨w.heap.size, 4, none⟩ = some (.slice pg lg cg) ∧ u.cell? ⟨w.heap.size, 5, none⟩ = some (.slice ph lh ch) ∧ u.cell? ⟨w.heap.size, 6, none⟩ = some (.int .i64 r) ∧ u.cell? ⟨w.heap.size, 7, none⟩ = some (.int .i64 z) from fun u hu => by
    refine ⟨?_, ?_, ?_, ?_, ?_, ?_, ?_, ?_⟩ <;> (rw [bl_cell hu _ _ lt0, hW]; simp [go_sem]))
  have FE := hideP (few9_any n r z px pr pf pg ph lx cx lr cr lf cf lg cg lh ch X Ro Fm Gm H W (hX.later b0) (hR.later b0) (hF.later b0) (hG.later b0) (hH.later b0) hlx.symm hlr.symm hlf.symm hlg.symm hlh.symm)
  have HW := hideP hW
  have HXR0 := hideP hX
  have HHR0 := hideP hH
  have HRR := hideP hR
  have HFR := hideP hF
  have HGR := hideP hG
  have hlx' := hideP hlx.symm
  have hlr' := hideP hlr.symm
  have hlf' := hideP hlf.symm
  have hlg' := hideP hlg.symm
  have hlh' := hideP hlh.symm
  clear hW hX hR hF hG hH hlx hlr hlf hlg hlh
  go_enter Tryz.func6, Tryz.ntmps6
  go_wp2_with fail
  rw [← HW.out]
  refine FE.out.mono ?_
  rintro e w1 ⟨b1, rfl, hb1, h1⟩
  clear FE
  cases b1 with
  | false =>
    go_wp2_with fail
    refine (AW.out _).mono ?_
    rintro e w99 ⟨rfl, h99⟩
    go_wp2
    go_ret
    exact ⟨rfl, (b0.trans h1).trans h99⟩
  | true =>
    obtain ⟨m, rfl, fw⟩ := hb1 rfl
    clear hb1
    obtain ⟨N, hN⟩ : ∃ N, N = m * m := ⟨_, rfl⟩
    obtain rfl : lx = m := by rw [← hlx'.out]; exact fw.x
    obtain ⟨m, rfl⟩ : ∃ m, m = lx := ⟨_, rfl⟩
    obtain rfl : lh = m := by rw [← hlh'.out]; exact fw.h
    obtain ⟨m, rfl⟩ : ∃ m, m = lh := ⟨_, rfl⟩
    obtain rfl : lr = N := by rw [← hlr'.out, hN]; exact fw.ro
    obtain ⟨N, rfl⟩ : ∃ N, N = lr := ⟨_, rfl⟩
    obtain rfl : lf = N := by rw [← hlf'.out, hN]; exact fw.f
    obtain ⟨N, rfl⟩ : ∃ N, N = lf := ⟨_, rfl⟩
    obtain rfl : lg = N := by rw [← hlg'.out, hN]; exact fw.g
    obtain ⟨N, rfl⟩ : ∃ N, N = lg := ⟨_, rfl⟩
    have m1 := fw.m1
    have m3 := fw.m3
    have hm4 : m ≤ 4 := by omega
    have hN9 : N ≤ 9 := by rw [hN]; exact Nat.mul_le_mul m3 m3
    have mN : m ≤ N := by rw [hN]; exact Nat.le_mul_of_pos_left m m1
    have HNN := hideP hN
    have HD := hideP (dim_le4 m1 hm4)
    have HFW := hideP fw
    have HXR := hideP (show Rq 1 cI w (.slice px m cx) (linJ m fun i => X.getD i 0) from by rw [← linJ_of (n := m) 0 X hlx'.out]; exact HXR0.out)
    have HHR := hideP (show Rq 1 cI w (.slice ph m ch) (linJ m fun i => H.getD i 0) from by rw [← linJ_of (n := m) 0 H hlh'.out]; exact HHR0.out)
    have b1w : Bl W w1 := h1
    clear hN fw HHR0
    obtain ⟨Rr, hRr⟩ : ∃ x : Fr, x = newR r 1 := ⟨_, rfl⟩
    obtain ⟨Zz, hZz⟩ : ∃ x : Fr, x = newR z 1 := ⟨_, rfl⟩
    have HRr := hideP hRr
    have HZz := hideP hZz
    have HE9 := hideP (enc_all9 m X H Ro Fm Gm r z)
    clear hRr hZz
    obtain ⟨c0, c1, c2, c3, c4, c5, c6, c7⟩ := HC.out w1 (b1w)
    have WH := hideP (whole9F_call m m pf N cf Fm w1 (HFR.out.later (b0.trans b1w)) HD.out HNN.out hlf'.out)
    go_wp2_with fail
    skip
    refine WH.out.mono ?_
    rintro e w3 ⟨p3, c3', rfl, hx, h3⟩
    obtain ⟨W3, hW3⟩ : ∃ W3, W3 = w3.alloc (.cells #[.int .i64 m, .int .i64 m, .slice p3 N c3'] 60) := ⟨_, rfl⟩
    have b3 : Bl w3 W3 := by rw [hW3]; exact (Bl.refl _).alloc _
    have k3 : MBox W3 w3.heap.size m m p3 N c3' := by rw [hW3]; exact MBox.new w3 _ _ _ _ _ _
    have HX3 := hideP (Mx.later hx b3)
    have b3p : Bl w1 W3 := h3.trans b3
    have HW3 := hideP hW3
    clear hW3 hx WH c0 c1 c2 c3 c4 c5 c6 c7
    obtain ⟨c0, c1, c2, c3, c4, c5, c6, c7⟩ := HC.out W3 (b1w.trans b3p)
    rw [HW3.out] at c0 c1 c2 c3 c4 c5 c6 c7
    have WH := hideP (whole9F_call m m pg N cg Gm W3 (HGR.out.later ((b0.trans b1w).trans b3p)) HD.out HNN.out hlg'.out)
    go_wp2_with fail
    rw [← HW3.out]
    refine WH.out.mono ?_
    rintro e w4 ⟨p4, c4', rfl, hx, h4⟩
    obtain ⟨W4, hW4⟩ : ∃ W4, W4 = w4.alloc (.cells #[.int .i64 m, .int .i64 m, .slice p4 N c4'] 60) := ⟨_, rfl⟩
    have b4 : Bl w4 W4 := by rw [hW4]; exact (Bl.refl _).alloc _
    have k4 : MBox W4 w4.heap.size m m p4 N c4' := by rw [hW4]; exact MBox.new w4 _ _ _ _ _ _
    have HX4 := hideP (Mx.later hx b4)
    have b4p : Bl W3 W4 := h4.trans b4
    have HW4 := hideP hW4
    clear hW4 hx WH c0 c1 c2 c3 c4 c5 c6 c7
    have b4w : Bl W W4 := b1w.trans (b3p.trans b4p)
    have B4 : Bl w W4 := b0.trans b4w
    obtain ⟨c0, c1, c2, c3, c4, c5, c6, c7⟩ := HC.out W4 (b4w)
    rw [HW4.out] at c0 c1 c2 c3 c4 c5 c6 c7
    go_wp2_with fail
    rw [← HW4.out]
    clear c0 c1 c2 c3 c4 c5 c6 c7
    refine (wpIn_wide (n := 8)).1 (region_q fm [some 50, some 51, some 52, some 53, some 54, some 49, some 55, some 56, some 7, none, some 8] (fun j => j == 7 || j == 10) 9 (by kernel_rfl) (by rfl)
          (fun j v u => match j with | 0 => v = .agg #[.int .i64 m, .slice px m cx, .slice pr N cr, .slice pf N cf, .slice pg N cg, .slice ph m ch, .int .i64 r, .int .i64 z] | 1 => ∃ q c p' c', v = sJ q m c m m p' N c' ∧ Rw 3 cellsF u (.slice q m c) (linJ m (fun i => wholeF (X.getD i 0))) ∧ Mx 3 cellsF u m m p' N c' (squareJ kdF m (fun i k => wholeF (ofL m Ro i k))) | 2 => v = mV m m p3 N c3' | 3 => v = mV m m p4 N c4' | 4 => ∃ q c p' c', v = .tuple #[sJ q (m) c (m : Nat) (m : Nat) p' (N) c', .bool true] ∧ Rw 3 cellsF u (.slice q (m) c) (linJ (m) (appJ kdF m (fun i k => wholeF (ofL m Fm i k)) (fun i => wholeF (X.getD i 0)))) ∧ Mx 3 cellsF u (m) (m) p' (N) c' (predJ kdF m (fun i k => wholeF (ofL m Fm i k)) (squareJ kdF m (fun i k => wholeF (ofL m Ro i k))) (fun i k => wholeF (ofL m Gm i k))) | 5 => ∃ q c p' c', v = .tuple #[sJ q (m) c (m : Nat) (m : Nat) p' (N) c', .bool true] ∧ Rw 3 cellsF u (.slice q (m) c) (linJ (m) (appJ kdF m (fun i k => wholeF (ofL m Fm i k)) (fun i => wholeF (X.getD i 0)))) ∧ Mx 3 cellsF u (m) (m) p' (N) c' (predJ kdF m (fun i k => wholeF (ofL m Fm i k)) (squareJ kdF m (fun i k => wholeF (ofL m Ro i k))) (fun i k => wholeF (ofL m Gm i k))) | 6 => ∃ q c p' c', v = sJ q (m) c (m : Nat) (m : Nat) p' (N) c' ∧ Rw 3 cellsF u (.slice q (m) c) (linJ (m) (appJ kdF m (fun i k => wholeF (ofL m Fm i k)) (fun i => wholeF (X.getD i 0)))) ∧ Mx 3 cellsF u (m) (m) p' (N) c' (predJ kdF m (fun i k => wholeF (ofL m Fm i k)) (squareJ kdF m (fun i k => wholeF (ofL m Ro i k))) (fun i k => wholeF (ofL m Gm i k))) | 7 => v = .bool true | 8 => ∃ b, v = .pointer (some ⟨b, 0, none⟩) ∧ W4.heap.size ≤ b ∧ SBox u b none 0 0 0 0 none 0 0 ∧ NoB u b | 10 => v = .bool true | _ => False)
          (by
            intro j v u u' hb h
            split at h <;> first | exact h | (obtain ⟨b, e, h1, h2, h3⟩ := h; exact ⟨b, e, h1, h2.later hb, h3.later hb h2.lt⟩) | (obtain ⟨q, c, p', c', e, h1, h2⟩ := h; exact ⟨q, c, p', c', e, h1.later hb, Mx.later h2 hb⟩) | (obtain ⟨q, c, e, h1⟩ := h; exact ⟨q, c, e, h1.later hb⟩) | (obtain ⟨g, e, h1⟩ := h; exact ⟨g, e, h1.later hb⟩)) (fun vs u0 u => ∃ b q c p' c', vs 8 = .pointer (some ⟨b, 0, none⟩) ∧ W4.heap.size ≤ b ∧ SBox u b q (m) c (m : Nat) (m : Nat) p' (N) c' ∧ Rw 3 cellsF u (.slice q (m) c) (linJ (m) (appJ kdF m (fun i k => wholeF (ofL m Fm i k)) (fun i => wholeF (X.getD i 0)))) ∧ Mx 3 cellsF u (m) (m) p' (N) c' (predJ kdF m (fun i k => wholeF (ofL m Fm i k)) (squareJ kdF m (fun i k => wholeF (ofL m Ro i k))) (fun i k => wholeF (ofL m Gm i k))) ∧ Bl W4 u) ?step ?still ?store ?fin)
    case step =>
      intro j o t act u ho hdt hpu hsz hu hfr hin
      have hj : j < 11 := (Array.getElem?_eq_some_iff.1 ho).1
      obtain ⟨c0, c1, c2, c3, c4, c5, c6, c7⟩ := HC.out _ (b4w.trans hu)
      obtain ⟨y0, y1, y2, _, _, _, _⟩ := k3.later (b4p.trans hu)
      obtain ⟨z0, z1, z2, _, _, _, _⟩ := k4.later hu
      rcases (by omega : j = 0 ∨ j = 1 ∨ j = 2 ∨ j = 3 ∨ j = 4 ∨ j = 5 ∨ j = 6 ∨ j = 7 ∨ j = 8 ∨ j = 9 ∨ j = 10) with rfl | rfl | rfl | rfl | rfl | rfl | rfl | rfl | rfl | rfl | rfl
      · simp only [List.getElem?_toArray, List.getElem?_cons_zero, List.getElem?_cons_succ, Option.some.injEq] at ho
        subst ho
        obtain rfl := Option.some.inj hdt
        have i1 : act.eval (.tmp (1 : Nat)) = .pointer (some ⟨w.heap.size, 0, none⟩) := hfr 1 (by decide)
        exact plain_wp (by intro c h; cases h) (fun _ _ => trivial) (by simp only [execOp, i1, evalC, evalF, evalG]; simp [go_sem, c0, c1, c2, c3, c4, c5, c6, c7]) ⟨_, rfl, rfl, Bl.refl _⟩
      · simp only [List.getElem?_toArray, List.getElem?_cons_zero, List.getElem?_cons_succ, Option.some.injEq] at ho
        subst ho
        obtain rfl := Option.some.inj hdt
        have i50 : (act.eval (.tmp (50 : Nat))) = .agg #[.int .i64 m, .slice px m cx, .slice pr N cr, .slice pf N cf, .slice pg N cg, .slice ph m ch, .int .i64 r, .int .i64 z] := hin ⟨0, .data⟩ (by simp) rfl 50 rfl
        refine enter_wp 31 #[.agg #[.int .i64 m, .slice px m cx, .slice pr N cr, .slice pf N cf, .slice pg N cg, .slice ph m ch, .int .i64 r, .int .i64 z]] (by intro c h; cases h) (fun _ _ => trivial) (by simp only [execOp, evalC, evalF, evalG, resolve, i50, List.map_toArray, List.map_cons, List.map_nil]; simp [invoke, egS, Result.andThen, go_sem]) (by intro h; cases h) (callsIn_wide.2 (start9_any m N r z px pr cx cr (.slice pf N cf) (.slice pg N cg) (.slice ph m ch) X Ro u rfl rfl rfl (HXR0.out.later (B4.trans hu)) (HRR.out.later (B4.trans hu)) hlx'.out hlr'.out m1 m3 HNN.out)) ?_
        rintro e w' ⟨q, c, p', c', rfl, ⟨hR, hM⟩, hb⟩
        exact ⟨_, rfl, _, rfl, ⟨q, c, p', c', rfl, hR, hM⟩, hb⟩
      · simp only [List.getElem?_toArray, List.getElem?_cons_zero, List.getElem?_cons_succ, Option.some.injEq] at ho
        subst ho
        obtain rfl := Option.some.inj hdt
        have i3 : act.eval (.tmp (3 : Nat)) = .pointer (some ⟨w3.heap.size, 0, none⟩) := hfr 3 (by decide)
        exact plain_wp (by intro c h; cases h) (fun _ _ => trivial) (by simp only [execOp, i3, evalC, evalF, evalG]; simp [go_sem, y0, y1, y2]) ⟨_, rfl, rfl, Bl.refl _⟩
      · simp only [List.getElem?_toArray, List.getElem?_cons_zero, List.getElem?_cons_succ, Option.some.injEq] at ho
        subst ho
        obtain rfl := Option.some.inj hdt
        have i5 : act.eval (.tmp (5 : Nat)) = .pointer (some ⟨w4.heap.size, 0, none⟩) := hfr 5 (by decide)
        exact plain_wp (by intro c h; cases h) (fun _ _ => trivial) (by simp only [execOp, i5, evalC, evalF, evalG]; simp [go_sem, z0, z1, z2]) ⟨_, rfl, rfl, Bl.refl _⟩
      · simp only [List.getElem?_toArray, List.getElem?_cons_zero, List.getElem?_cons_succ, Option.some.injEq] at ho
        subst ho
        obtain rfl := Option.some.inj hdt
        have i51 : ∃ q c p' c', (act.eval (.tmp (51 : Nat))) = sJ q m c m m p' N c' ∧ Rw 3 cellsF u (.slice q m c) (linJ m (fun i => wholeF (X.getD i 0))) ∧ Mx 3 cellsF u m m p' N c' (squareJ kdF m (fun i k => wholeF (ofL m Ro i k))) := hin ⟨1, .data⟩ (by simp) rfl 51 rfl
        have i52 : (act.eval (.tmp (52 : Nat))) = mV m m p3 N c3' := hin ⟨2, .data⟩ (by simp) rfl 52 rfl
        have i53 : (act.eval (.tmp (53 : Nat))) = mV m m p4 N c4' := hin ⟨3, .data⟩ (by simp) rfl 53 rfl
        obtain ⟨q0, cc0, p0, d0, e0, hR, hM⟩ := i51
        refine enter_wp 30 #[sJ q0 m cc0 m m p0 N d0, mV m m p3 N c3', mV m m p4 N c4'] (by intro c h; cases h) (fun _ _ => trivial) (by simp only [execOp, evalC, evalF, evalG, resolve, e0, i52, i53, List.map_toArray, List.map_cons, List.map_nil]; simp [invoke, egD, Result.andThen, go_sem]) (by intro h; cases h) (callsIn_wide.2 (jPredictF m N q0 cc0 (fun i => wholeF (X.getD i 0)) p0 d0 (squareJ kdF m (fun i k => wholeF (ofL m Ro i k))) p3 c3' (fun i k => wholeF (ofL m Fm i k)) p4 c4' (fun i k => wholeF (ofL m Gm i k)) u hR.q hM (HX3.out.later (b4p.trans hu)) (HX4.out.later hu) hm4)) ?_
        rintro e w' ⟨q, c, p', c', rfl, ⟨hR, hM⟩, hb⟩
        exact ⟨_, rfl, _, rfl, ⟨q, c, p', c', rfl, hR, hM⟩, hb⟩
      · simp only [List.getElem?_toArray, List.getElem?_cons_zero, List.getElem?_cons_succ, Option.some.injEq] at ho
        subst ho
        obtain rfl := Option.some.inj hdt
        have i54 : ∃ q c p' c', (act.eval (.tmp (54 : Nat))) = .tuple #[sJ q (m) c (m : Nat) (m : Nat) p' (N) c', .bool true] ∧ Rw 3 cellsF u (.slice q (m) c) (linJ (m) (appJ kdF m (fun i k => wholeF (ofL m Fm i k)) (fun i => wholeF (X.getD i 0)))) ∧ Mx 3 cellsF u (m) (m) p' (N) c' (predJ kdF m (fun i k => wholeF (ofL m Fm i k)) (squareJ kdF m (fun i k => wholeF (ofL m Ro i k))) (fun i k => wholeF (ofL m Gm i k))) := hin ⟨4, .data⟩ (by simp) rfl 54 rfl
        obtain ⟨q0, c0', p0, c0, e1, hq1, hq2⟩ := i54
        exact plain_wp (by intro c h; cases h) (fun _ _ => trivial) (by simp only [execOp, e1]; simp [go_sem]) ⟨_, rfl, ⟨q0, c0', p0, c0, rfl, hq1, hq2⟩, Bl.refl _⟩
      · simp only [List.getElem?_toArray, List.getElem?_cons_zero, List.getElem?_cons_succ, Option.some.injEq] at ho
        subst ho
        obtain rfl := Option.some.inj hdt
        have i49 : ∃ q c p' c', (act.eval (.tmp (49 : Nat))) = .tuple #[sJ q (m) c (m : Nat) (m : Nat) p' (N) c', .bool true] ∧ Rw 3 cellsF u (.slice q (m) c) (linJ (m) (appJ kdF m (fun i k => wholeF (ofL m Fm i k)) (fun i => wholeF (X.getD i 0)))) ∧ Mx 3 cellsF u (m) (m) p' (N) c' (predJ kdF m (fun i k => wholeF (ofL m Fm i k)) (squareJ kdF m (fun i k => wholeF (ofL m Ro i k))) (fun i k => wholeF (ofL m Gm i k))) := hin ⟨5, .data⟩ (by simp) rfl 49 rfl
        obtain ⟨q0, c0', p0, c0, e1, hq1, hq2⟩ := i49
        exact plain_wp (by intro c h; cases h) (fun _ _ => trivial) (by simp only [execOp, e1]; simp [go_sem]) ⟨_, rfl, ⟨q0, c0', p0, c0, rfl, hq1, hq2⟩, Bl.refl _⟩
      · cases hpu
      · simp only [List.getElem?_toArray, List.getElem?_cons_zero, List.getElem?_cons_succ, Option.some.injEq] at ho
        subst ho
        obtain rfl := Option.some.inj hdt
        exact plain_wp (by intro c h; cases h) (fun _ _ => trivial) (w' := u.alloc (.cells #[.slice none 0 0, .int .i64 0, .int .i64 0, .slice none 0 0] 66)) (v := .pointer (some ⟨u.heap.size, 0, none⟩)) (by simp only [execOp]; simp [go_sem]) ⟨_, rfl, ⟨u.heap.size, rfl, hu.size, SBox.new u _ _ _ _ _ _ _ _ _, noB_newSF u _⟩, (Bl.refl _).alloc _⟩
      · simp only [List.getElem?_toArray, List.getElem?_cons_zero, List.getElem?_cons_succ, Option.some.injEq] at ho
        subst ho
        cases hdt
      · cases hpu
    case still =>
      intro j o t act u0 u ho hdt hpu hsz hu hfr hin
      have hj : j < 11 := (Array.getElem?_eq_some_iff.1 ho).1
      obtain ⟨c0, c1, c2, c3, c4, c5, c6, c7⟩ := HC.out _ (b4w.trans hu)
      obtain ⟨y0, y1, y2, _, _, _, _⟩ := k3.later (b4p.trans hu)
      obtain ⟨z0, z1, z2, _, _, _, _⟩ := k4.later hu
      rcases (by omega : j = 0 ∨ j = 1 ∨ j = 2 ∨ j = 3 ∨ j = 4 ∨ j = 5 ∨ j = 6 ∨ j = 7 ∨ j = 8 ∨ j = 9 ∨ j = 10) with rfl | rfl | rfl | rfl | rfl | rfl | rfl | rfl | rfl | rfl | rfl
      · cases hpu
      · cases hpu
      · cases hpu
      · cases hpu
      · cases hpu
      · cases hpu
      · cases hpu
      · simp only [List.getElem?_toArray, List.getElem?_cons_zero, List.getElem?_cons_succ, Option.some.injEq] at ho
        subst ho
        obtain rfl := Option.some.inj hdt
        have i49 : ∃ q c p' c', (act.eval (.tmp (49 : Nat))) = .tuple #[sJ q (m) c (m : Nat) (m : Nat) p' (N) c', .bool true] ∧ Rw 3 cellsF u0 (.slice q (m) c) (linJ (m) (appJ kdF m (fun i k => wholeF (ofL m Fm i k)) (fun i => wholeF (X.getD i 0)))) ∧ Mx 3 cellsF u0 (m) (m) p' (N) c' (predJ kdF m (fun i k => wholeF (ofL m Fm i k)) (squareJ kdF m (fun i k => wholeF (ofL m Ro i k))) (fun i k => wholeF (ofL m Gm i k))) := hin ⟨5, .data⟩ (by simp) rfl 49 rfl
        obtain ⟨q0, c0', p0, c0, e1, hq1, hq2⟩ := i49
        exact plain_wp (by intro c h; cases h) (fun _ _ => trivial) (by simp only [execOp, e1]; simp [go_sem]) ⟨_, rfl, rfl, rfl⟩
      · cases hpu
      · cases hpu
      · simp only [List.getElem?_toArray, List.getElem?_cons_zero, List.getElem?_cons_succ, Option.some.injEq] at ho
        subst ho
        obtain rfl := Option.some.inj hdt
        have i56 : (act.eval (.tmp (56 : Nat))) = .bool true := hin ⟨7, .data⟩ (by simp) rfl 56 rfl
        exact plain_wp (by intro c h; cases h) (fun _ _ => trivial) (by simp only [execOp, i56, evalC, evalF, evalG]; simp [go_sem]) ⟨_, rfl, rfl, rfl⟩
    case store =>
      intro o act u vs ho hsz hu hfr hin
      simp only [List.getElem?_toArray, List.getElem?_cons_zero, List.getElem?_cons_succ, Option.some.injEq] at ho
      subst ho
      obtain ⟨i7, k7⟩ : act.eval (.tmp (7 : Nat)) = vs 8 ∧ (∃ b, (vs 8) = .pointer (some ⟨b, 0, none⟩) ∧ W4.heap.size ≤ b ∧ SBox u b none 0 0 0 0 none 0 0 ∧ NoB u b) := hin 8 7 rfl rfl
      obtain ⟨i55, k55⟩ : act.eval (.tmp (55 : Nat)) = vs 6 ∧ (∃ q c p' c', (vs 6) = sJ q (m) c (m : Nat) (m : Nat) p' (N) c' ∧ Rw 3 cellsF u (.slice q (m) c) (linJ (m) (appJ kdF m (fun i k => wholeF (ofL m Fm i k)) (fun i => wholeF (X.getD i 0)))) ∧ Mx 3 cellsF u (m) (m) p' (N) c' (predJ kdF m (fun i k => wholeF (ofL m Fm i k)) (squareJ kdF m (fun i k => wholeF (ofL m Ro i k))) (fun i k => wholeF (ofL m Gm i k)))) := hin 6 55 rfl rfl
      obtain ⟨b, e1, hb, bx, nb⟩ := k7
      obtain ⟨q0, c0', p0, c0, e2, hq1, hq2⟩ := k55
      rw [e1] at i7
      rw [e2] at i55
      obtain ⟨d0, d1, d2, d3, g0, g1, g2, g3, ltb⟩ := id bx
      exact skip_wp (by intro c h; cases h) (fun _ _ => trivial) (by simp only [execOp, i7, i55]; simp [go_sem, d0, d1, d2, d3, g0, g1, g2, g3]) ⟨rfl, b, q0, c0', p0, c0, e1, hb, bx.fill _ _ _ _ _ _ _ _, hq1.but (but4F _ _ _ _ _ _) (fun g hg => noB_rwF hq1 (m1) nb g hg), Mx.but hq2 (but4F _ _ _ _ _ _) (fun g hg => Ne.symm (noB_mx boolF hq2 nb g hg)), Bl.put4 hu hb _ _ _ _⟩
    case fin =>
      intro vs vb u0 u hu hin hps
      have a0 := hin 0 50 rfl
      have a1 := hin 1 51 rfl
      have a2 := hin 2 52 rfl
      have a3 := hin 3 53 rfl
      have a4 := hin 4 54 rfl
      have a5 := hin 5 49 rfl
      have a6 := hin 6 55 rfl
      have a7 := hin 7 56 rfl
      have a8 := hin 8 7 rfl
      have a10 := hin 10 8 rfl
      simp only [putL, Act.put, List.setIfInBounds_toArray, List.set_cons_zero, List.set_cons_succ, Nat.zero_add, Nat.reduceAdd, Nat.reduceBEq, Bool.or_false, Bool.or_true, Bool.false_or, Bool.true_or, Bool.false_eq_true, if_false, if_true, reduceIte, Nat.reduceEqDiff, beq_self_eq_true, Bool.or_self] at a0 a1 a2 a3 a4 a5 a6 a7 a8 a10 ⊢
      rw [if_pos (by decide)] at hps
      simp only [a0, a2, a3, a7, a10]
      obtain ⟨b, q5, cq5, p5, c5', eb, hb, k5, hR, hM, hbu⟩ := hps
      simp only [eb]
      obtain ⟨w5, rfl⟩ : ∃ w5, w5 = u := ⟨_, rfl⟩
      have HR5 := hideP hR
      have HM5 := hideP hM
      have b5w : Bl W w5 := b4w.trans hbu
      have B5 : Bl w w5 := b0.trans b5w
      clear a1 a4 a5 a6 a8 hu hin hR hM
      go_wp2_with fail
      refine (wpIn_wide (n := 8)).1 (region_u (updF_ok (m) (N) (upXJ kdF m (appJ kdF m (fun i k => wholeF (ofL m Fm i k)) (fun i => wholeF (X.getD i 0))) (predJ kdF m (fun i k => wholeF (ofL m Fm i k)) (squareJ kdF m (fun i k => wholeF (ofL m Ro i k))) (fun i k => wholeF (ofL m Gm i k))) (fun i => wholeF (H.getD i 0)) Rr Zz) (upPJ kdF (fun i j => wholeF (unitI i j)) m (predJ kdF m (fun i k => wholeF (ofL m Fm i k)) (squareJ kdF m (fun i k => wholeF (ofL m Ro i k))) (fun i k => wholeF (ofL m Gm i k))) (fun i => wholeF (H.getD i 0)) Rr) (surpJ kdF m (appJ kdF m (fun i k => wholeF (ofL m Fm i k)) (fun i => wholeF (X.getD i 0))) (fun i => wholeF (H.getD i 0)) Zz) (spreadJ kdF m (predJ kdF m (fun i k => wholeF (ofL m Fm i k)) (squareJ kdF m (fun i k => wholeF (ofL m Ro i k))) (fun i k => wholeF (ofL m Gm i k))) (fun i => wholeF (H.getD i 0)) Rr)) fm [some 58, some 59, some 60, some 61, some 62, some 63, some 64, some 65, some 66, some 67, some 68, some 57, some 69, some 70, some 71, some 9, some 10, none, none, some 11] 10 (by kernel_rfl) (by rfl) 68 57 69 70 71 9 10 11 rfl
            (fun j v u => match j with | 0 => v = sJ q5 m cq5 m m p5 N c5' | 1 => v = .pointer (some ⟨w.heap.size, 5, none⟩) | 2 => v = .slice ph m ch | 3 => ∃ q c, v = .slice q m c ∧ Rw 3 cellsF u (.slice q m c) (linJ m (fun i => wholeF (H.getD i 0))) | 4 => v = .pointer (some ⟨w.heap.size, 6, none⟩) | 5 => v = .int .i64 r | 6 => v = frV Rr | 7 => v = .pointer (some ⟨w.heap.size, 7, none⟩) | 8 => v = .int .i64 z | 9 => v = frV Zz | _ => False)
            (by
              intro j v u u' hb h
              split at h <;> first | exact h | (obtain ⟨q, c, e, h1⟩ := h; exact ⟨q, c, e, h1.later hb⟩) | (obtain ⟨g, e, h1⟩ := h; exact ⟨g, e, h1.later hb⟩)) ?step ?call ?mv ?x0 ?x1 ?x2 ?la ?lb ?sa ?sb ?asg ?fin)
      case step =>
        intro j o t act u hjk ho hdt hsz hu hfr hin
        obtain ⟨c0, c1, c2, c3, c4, c5, c6, c7⟩ := HC.out _ (b5w.trans hu)
        obtain ⟨s0, s1, s2, s3, _, _, _, _, _⟩ := k5.later hu
        rcases (by omega : j = 0 ∨ j = 1 ∨ j = 2 ∨ j = 3 ∨ j = 4 ∨ j = 5 ∨ j = 6 ∨ j = 7 ∨ j = 8 ∨ j = 9) with rfl | rfl | rfl | rfl | rfl | rfl | rfl | rfl | rfl | rfl
        · simp only [List.getElem?_toArray, List.getElem?_cons_zero, List.getElem?_cons_succ, Option.some.injEq] at ho
          subst ho
          obtain rfl := Option.some.inj hdt
          have i7 : act.eval (.tmp (7 : Nat)) = .pointer (some ⟨b, 0, none⟩) := hfr 7 (by decide)
          exact plain_wp (by intro c h; cases h) (fun _ _ => trivial) (by simp only [execOp, i7, evalC, evalF, evalG]; simp [go_sem, s0, s1, s2, s3]) ⟨_, rfl, rfl, Bl.refl _⟩
        · simp only [List.getElem?_toArray, List.getElem?_cons_zero, List.getElem?_cons_succ, Option.some.injEq] at ho
          subst ho
          obtain rfl := Option.some.inj hdt
          have i1 : act.eval (.tmp (1 : Nat)) = .pointer (some ⟨w.heap.size, 0, none⟩) := hfr 1 (by decide)
          exact plain_wp (by intro c h; cases h) (fun _ _ => trivial) (by simp only [execOp, i1, evalC, evalF, evalG]; simp [go_sem, c5]) ⟨_, rfl, rfl, Bl.refl _⟩
        · simp only [List.getElem?_toArray, List.getElem?_cons_zero, List.getElem?_cons_succ, Option.some.injEq] at ho
          subst ho
          obtain rfl := Option.some.inj hdt
          have i59 : (act.eval (.tmp (59 : Nat))) = .pointer (some ⟨w.heap.size, 5, none⟩) := hin ⟨1, .data⟩ (by simp) rfl 59 rfl
          exact plain_wp (by intro c h; cases h) (fun _ _ => trivial) (by simp only [execOp, i59, evalC, evalF, evalG]; simp [go_sem, c5]) ⟨_, rfl, rfl, Bl.refl _⟩
        · simp only [List.getElem?_toArray, List.getElem?_cons_zero, List.getElem?_cons_succ, Option.some.injEq] at ho
          subst ho
          obtain rfl := Option.some.inj hdt
          have i60 : (act.eval (.tmp (60 : Nat))) = .slice ph m ch := hin ⟨2, .data⟩ (by simp) rfl 60 rfl
          refine enter_wp 33 #[.slice ph m ch] (by intro c h; cases h) (fun _ _ => trivial) (by simp only [execOp, evalC, evalF, evalG, resolve, i60, List.map_toArray, List.map_cons, List.map_nil]; simp [invoke, egWF, Result.andThen, go_sem]) (by intro h; cases h) (callsIn_wide.2 (whole_linF ph m ch (fun i => H.getD i 0) u (HHR.out.later (B5.trans hu)) (by omega))) ?_
          rintro e w' ⟨q, c, rfl, hR, hb⟩
          exact ⟨_, rfl, _, rfl, ⟨q, c, rfl, hR⟩, hb⟩
        · simp only [List.getElem?_toArray, List.getElem?_cons_zero, List.getElem?_cons_succ, Option.some.injEq] at ho
          subst ho
          obtain rfl := Option.some.inj hdt
          have i1 : act.eval (.tmp (1 : Nat)) = .pointer (some ⟨w.heap.size, 0, none⟩) := hfr 1 (by decide)
          exact plain_wp (by intro c h; cases h) (fun _ _ => trivial) (by simp only [execOp, i1, evalC, evalF, evalG]; simp [go_sem, c6]) ⟨_, rfl, rfl, Bl.refl _⟩
        · simp only [List.getElem?_toArray, List.getElem?_cons_zero, List.getElem?_cons_succ, Option.some.injEq] at ho
          subst ho
          obtain rfl := Option.some.inj hdt
          have i62 : (act.eval (.tmp (62 : Nat))) = .pointer (some ⟨w.heap.size, 6, none⟩) := hin ⟨4, .data⟩ (by simp) rfl 62 rfl
          exact plain_wp (by intro c h; cases h) (fun _ _ => trivial) (by simp only [execOp, i62, evalC, evalF, evalG]; simp [go_sem, c6]) ⟨_, rfl, rfl, Bl.refl _⟩
        · simp only [List.getElem?_toArray, List.getElem?_cons_zero, List.getElem?_cons_succ, Option.some.injEq] at ho
          subst ho
          obtain rfl := Option.some.inj hdt
          have i63 : (act.eval (.tmp (63 : Nat))) = .int .i64 r := hin ⟨5, .data⟩ (by simp) rfl 63 rfl
          refine enter_wp 34 #[.int .i64 r, .int .i64 1] (by intro c h; cases h) (fun _ _ => trivial) (by simp only [execOp, evalC, evalF, evalG, resolve, i63, evalC, List.map_toArray, List.map_cons, List.map_nil]; simp [invoke, egQ, Result.andThen, go_sem]) (by intro h; cases h) (callsIn_wide.2 (new_any r 1 u)) ?_
          rintro e w' ⟨rfl, hb⟩
          exact ⟨_, rfl, _, rfl, show frV (newR r 1) = frV Rr from by rw [HRr.out], hb⟩
        · simp only [List.getElem?_toArray, List.getElem?_cons_zero, List.getElem?_cons_succ, Option.some.injEq] at ho
          subst ho
          obtain rfl := Option.some.inj hdt
          have i1 : act.eval (.tmp (1 : Nat)) = .pointer (some ⟨w.heap.size, 0, none⟩) := hfr 1 (by decide)
          exact plain_wp (by intro c h; cases h) (fun _ _ => trivial) (by simp only [execOp, i1, evalC, evalF, evalG]; simp [go_sem, c7]) ⟨_, rfl, rfl, Bl.refl _⟩
        · simp only [List.getElem?_toArray, List.getElem?_cons_zero, List.getElem?_cons_succ, Option.some.injEq] at ho
          subst ho
          obtain rfl := Option.some.inj hdt
          have i65 : (act.eval (.tmp (65 : Nat))) = .pointer (some ⟨w.heap.size, 7, none⟩) := hin ⟨7, .data⟩ (by simp) rfl 65 rfl
          exact plain_wp (by intro c h; cases h) (fun _ _ => trivial) (by simp only [execOp, i65, evalC, evalF, evalG]; simp [go_sem, c7]) ⟨_, rfl, rfl, Bl.refl _⟩
        · simp only [List.getElem?_toArray, List.getElem?_cons_zero, List.getElem?_cons_succ, Option.some.injEq] at ho
          subst ho
          obtain rfl := Option.some.inj hdt
          have i66 : (act.eval (.tmp (66 : Nat))) = .int .i64 z := hin ⟨8, .data⟩ (by simp) rfl 66 rfl
          refine enter_wp 34 #[.int .i64 z, .int .i64 1] (by intro c h; cases h) (fun _ _ => trivial) (by simp only [execOp, evalC, evalF, evalG, resolve, i66, evalC, List.map_toArray, List.map_cons, List.map_nil]; simp [invoke, egQ, Result.andThen, go_sem]) (by intro h; cases h) (callsIn_wide.2 (new_any z 1 u)) ?_
          rintro e w' ⟨rfl, hb⟩
          exact ⟨_, rfl, _, rfl, show frV (newR z 1) = frV Zz from by rw [HZz.out], hb⟩
      case call =>
        intro o act u ho hsz hu hfr hin
        obtain ⟨c0, c1, c2, c3, c4, c5, c6, c7⟩ := HC.out _ (b5w.trans hu)
        obtain ⟨s0, s1, s2, s3, _, _, _, _, _⟩ := k5.later hu
        simp only [List.getElem?_toArray, List.getElem?_cons_zero, List.getElem?_cons_succ, Option.some.injEq, Nat.reduceAdd] at ho
        subst ho
        have i58 : (act.eval (.tmp (58 : Nat))) = sJ q5 m cq5 m m p5 N c5' := hin ⟨0, .data⟩ (by simp) rfl 58 rfl
        have i61 : ∃ q c, (act.eval (.tmp (61 : Nat))) = .slice q m c ∧ Rw 3 cellsF u (.slice q m c) (linJ m (fun i => wholeF (H.getD i 0))) := hin ⟨3, .data⟩ (by simp) rfl 61 rfl
        have i64 : (act.eval (.tmp (64 : Nat))) = frV Rr := hin ⟨6, .data⟩ (by simp) rfl 64 rfl
        have i67 : (act.eval (.tmp (67 : Nat))) = frV Zz := hin ⟨9, .data⟩ (by simp) rfl 67 rfl
        obtain ⟨q0, cc0, e0, hq⟩ := i61
        refine enter_wp 32 #[sJ q5 m cq5 m m p5 N c5', .slice q0 m cc0, frV Rr, frV Zz] (by intro c h; cases h) (fun _ _ => trivial) (by simp only [execOp, evalC, evalF, evalG, resolve, i58, e0, i64, i67, List.map_toArray, List.map_cons, List.map_nil]; simp [invoke, egUF, Result.andThen, go_sem]) (by intro h; cases h) (callsIn_wide.2 (jUpdateF m N q5 cq5 (appJ kdF m (fun i k => wholeF (ofL m Fm i k)) (fun i => wholeF (X.getD i 0))) p5 c5' (predJ kdF m (fun i k => wholeF (ofL m Fm i k)) (squareJ kdF m (fun i k => wholeF (ofL m Ro i k))) (fun i k => wholeF (ofL m Gm i k))) q0 cc0 (fun i => wholeF (H.getD i 0)) Rr Zz u (HR5.out.later hu).q (HM5.out.later hu) hq.q hm4)) ?_
        rintro e w' ⟨q, c, p', c', rfl, ⟨hR, hM, hF1, hF2⟩, hb⟩
        exact ⟨_, rfl, (q, c, p', c'), rfl, ⟨hR, hM⟩, hb, fun b hb' _ => ⟨fun g hg => by have := hF1 g hg; omega, fun g hg => by have := hF2 g hg; omega⟩⟩
      case mv =>
        intro o act u x ho hx
        simp only [List.getElem?_toArray, List.getElem?_cons_zero, List.getElem?_cons_succ, Option.some.injEq, Nat.reduceAdd] at ho
        subst ho
        exact plain_wp (by intro c h; cases h) (fun _ _ => trivial) (by simp only [execOp, hx]; simp [go_sem]) ⟨rfl, rfl⟩
      case x0 =>
        intro o act u x y z ho hx
        simp only [List.getElem?_toArray, List.getElem?_cons_zero, List.getElem?_cons_succ, Option.some.injEq, Nat.reduceAdd] at ho
        subst ho
        exact plain_wp (by intro c h; cases h) (fun _ _ => trivial) (by simp only [execOp, hx]; simp [go_sem]) ⟨rfl, rfl⟩
      case x1 =>
        intro o act u x y z ho hx
        simp only [List.getElem?_toArray, List.getElem?_cons_zero, List.getElem?_cons_succ, Option.some.injEq, Nat.reduceAdd] at ho
        subst ho
        exact plain_wp (by intro c h; cases h) (fun _ _ => trivial) (by simp only [execOp, hx]; simp [go_sem]) ⟨rfl, rfl⟩
      case x2 =>
        intro o act u x y z ho hx
        simp only [List.getElem?_toArray, List.getElem?_cons_zero, List.getElem?_cons_succ, Option.some.injEq, Nat.reduceAdd] at ho
        subst ho
        exact plain_wp (by intro c h; cases h) (fun _ _ => trivial) (by simp only [execOp, hx]; simp [go_sem]) ⟨rfl, rfl⟩
      case la =>
        intro o act u ho
        simp only [List.getElem?_toArray, List.getElem?_cons_zero, List.getElem?_cons_succ, Option.some.injEq, Nat.reduceAdd] at ho
        subst ho
        exact plain_wp (by intro c h; cases h) (fun _ _ => trivial) (w' := u.alloc (.cells #[.slice none 0 0, .int .i64 0, .int .i64 0, .slice none 0 0] 66)) (v := .pointer (some ⟨u.heap.size, 0, none⟩)) (by simp only [execOp]; simp [go_sem]) ⟨rfl, SBox.new u _ _ _ _ _ _ _ _ _, (Bl.refl _).alloc _, by simp⟩
      case lb =>
        intro o act u ho
        simp only [List.getElem?_toArray, List.getElem?_cons_zero, List.getElem?_cons_succ, Option.some.injEq, Nat.reduceAdd] at ho
        subst ho
        exact plain_wp (by intro c h; cases h) (fun _ _ => trivial) (w' := u.alloc (.cells #[.int .i64 0, .int .i64 0, .bool false, .int .i64 0, .int .i64 0, .bool false] 71)) (v := .pointer (some ⟨u.heap.size, 0, none⟩)) (by simp only [execOp]; simp [go_sem]) ⟨rfl, NBoxF.new u zeroR zeroR _, (Bl.refl _).alloc _, by simp⟩
      case sa =>
        intro o act u D b ho hA h0 hz hdat hoff hbl hb
        simp only [List.getElem?_toArray, List.getElem?_cons_zero, List.getElem?_cons_succ, Option.some.injEq, Nat.reduceAdd] at ho
        subst ho
        obtain ⟨q0, c0, p0, c1⟩ := D
        replace h0 : act.eval (.tmp 69) = sJ q0 (m) c0 (m) (m) p0 (N) c1 := h0
        obtain ⟨d0, d1, d2, d3, g0, g1, g2, g3, lt⟩ := (show SBox u b none 0 0 0 0 none 0 0 from hz)
        exact skip_wp (by intro c h; cases h) (fun _ _ => trivial) (by simp only [execOp, hA, h0]; simp [go_sem, d0, d1, d2, d3, g0, g1, g2, g3]) ⟨rfl, SBox.fill (show SBox u b none 0 0 0 0 none 0 0 from hz) _ _ _ _ _ _ _ _, ⟨hdat.1.but (but4F _ _ _ _ _ _) (fun g hg => hoff.1 g hg), hdat.2.but (but4F _ _ _ _ _ _) (fun g hg => hoff.2 g hg)⟩, Bl.put4 hbl hb _ _ _ _, fun b' h' => heap4F _ h' _ _ _ _, by simp⟩
      case sb =>
        intro o act u D b ho hA h0 hz hdat hoff hbl hb
        simp only [List.getElem?_toArray, List.getElem?_cons_zero, List.getElem?_cons_succ, Option.some.injEq, Nat.reduceAdd] at ho
        subst ho
        obtain ⟨q0, c0, p0, c1⟩ := D
        replace h0 : act.eval (.tmp 70) = newsVF (surpJ kdF m (appJ kdF m (fun i k => wholeF (ofL m Fm i k)) (fun i => wholeF (X.getD i 0))) (fun i => wholeF (H.getD i 0)) Zz) (spreadJ kdF m (predJ kdF m (fun i k => wholeF (ofL m Fm i k)) (squareJ kdF m (fun i k => wholeF (ofL m Ro i k))) (fun i k => wholeF (ofL m Gm i k))) (fun i => wholeF (H.getD i 0)) Rr) := h0
        obtain ⟨d0, d1, d2, d3, d4, d5, g0, g1, g2, g3, g4, g5, lt⟩ := (show NBoxF u b zeroR zeroR from hz)
        exact skip_wp (by intro c h; cases h) (fun _ _ => trivial) (by simp only [execOp, hA, h0]; simp [go_sem, d0, d1, d2, d3, d4, d5, g0, g1, g2, g3, g4, g5]) ⟨rfl, NBoxF.fill (show NBoxF u b zeroR zeroR from hz) _ _, ⟨hdat.1.but (butNF _ _ _ _) (fun g hg => hoff.1 g hg), hdat.2.but (butNF _ _ _ _) (fun g hg => hoff.2 g hg)⟩, blNF b hbl hb _ _, fun b' h' => heapNF _ h' _ _, by simp⟩
      case asg =>
        intro o act u x ho hx
        simp only [List.getElem?_toArray, List.getElem?_cons_zero, List.getElem?_cons_succ, Option.some.injEq, Nat.reduceAdd] at ho
        subst ho
        exact plain_wp (by intro c h; cases h) (fun _ _ => trivial) (by simp only [execOp, hx]; simp [go_sem]) ⟨rfl, rfl⟩
      case fin =>
        intro vs u D b6 n6' hu e9' e5' e6' hb1 hb2 hsa hsb hdat
        simp only [putL, Act.put, List.setIfInBounds_toArray, List.set_cons_zero, List.set_cons_succ, Nat.zero_add, Nat.reduceAdd] at e9' e5' e6' ⊢
        replace e9' := Eq.trans e9' (show _ = Value.bool true from rfl)
        simp only [e9', e5', e6']
        obtain ⟨q6, cq6, p6, c6'⟩ := D
        obtain ⟨w6, rfl⟩ : ∃ w6, w6 = u := ⟨_, rfl⟩
        have k6 : SBox w6 b6 q6 m cq6 m m p6 N c6' := hsa
        have n6 : NBoxF w6 n6' (surpJ kdF m (appJ kdF m (fun i k => wholeF (ofL m Fm i k)) (fun i => wholeF (X.getD i 0))) (fun i => wholeF (H.getD i 0)) Zz) (spreadJ kdF m (predJ kdF m (fun i k => wholeF (ofL m Fm i k)) (squareJ kdF m (fun i k => wholeF (ofL m Ro i k))) (fun i k => wholeF (ofL m Gm i k))) (fun i => wholeF (H.getD i 0)) Rr) := hsb
        have HD6 : Rw 3 cellsF w6 (.slice q6 m cq6) (linJ m (upXJ kdF m (appJ kdF m (fun i k => wholeF (ofL m Fm i k)) (fun i => wholeF (X.getD i 0))) (predJ kdF m (fun i k => wholeF (ofL m Fm i k)) (squareJ kdF m (fun i k => wholeF (ofL m Ro i k))) (fun i k => wholeF (ofL m Gm i k))) (fun i => wholeF (H.getD i 0)) Rr Zz)) ∧ Mx 3 cellsF w6 m m p6 N c6' (upPJ kdF (fun i j => wholeF (unitI i j)) m (predJ kdF m (fun i k => wholeF (ofL m Fm i k)) (squareJ kdF m (fun i k => wholeF (ofL m Ro i k))) (fun i k => wholeF (ofL m Gm i k))) (fun i => wholeF (H.getD i 0)) Rr) := hdat
        have HR6 := hideP HD6.1
        have HM6 := hideP HD6.2
        have b56 : Bl w5 w6 := hu
        have b6w : Bl W w6 := b5w.trans hu
        have B6 : Bl w w6 := b0.trans b6w
        clear hsa hsb hdat HD6
        obtain ⟨eF, heF⟩ : ∃ y, y = surpJ kdF m (appJ kdF m (fun i k => wholeF (ofL m Fm i k)) (fun i => wholeF (X.getD i 0))) (fun i => wholeF (H.getD i 0)) Zz := ⟨_, rfl⟩
        obtain ⟨aF, haF⟩ : ∃ y, y = spreadJ kdF m (predJ kdF m (fun i k => wholeF (ofL m Fm i k)) (squareJ kdF m (fun i k => wholeF (ofL m Ro i k))) (fun i k => wholeF (ofL m Gm i k))) (fun i => wholeF (H.getD i 0)) Rr := ⟨_, rfl⟩
        rw [← heF, ← haF] at n6
        have HeF := hideP heF
        have HaF := hideP haF
        clear heF haF
        obtain ⟨c0, c1, c2, c3, c4, c5, c6, c7⟩ := HC.out w6 (b6w)
        have WH := hideP (whole8N_call m m pr N cr Ro w6 (HRR.out.later (B6)) HD.out HNN.out hlr'.out)
        go_wp2_with fail
        skip
        refine WH.out.mono ?_
        rintro e w7 ⟨p7, c7', rfl, hx, h7⟩
        obtain ⟨W7, hW7⟩ : ∃ W7, W7 = w7.alloc (.cells #[.int .i64 m, .int .i64 m, .slice p7 N c7'] 24) := ⟨_, rfl⟩
        have b7 : Bl w7 W7 := by rw [hW7]; exact (Bl.refl _).alloc _
        have k7 : MBox W7 w7.heap.size m m p7 N c7' := by rw [hW7]; exact MBox.new w7 _ _ _ _ _ _
        have HX7 := hideP (Mx.later hx b7)
        have b7p : Bl w6 W7 := h7.trans b7
        have HW7 := hideP hW7
        clear hW7 hx WH c0 c1 c2 c3 c4 c5 c6 c7
        obtain ⟨c0, c1, c2, c3, c4, c5, c6, c7⟩ := HC.out W7 (b6w.trans b7p)
        rw [HW7.out] at c0 c1 c2 c3 c4 c5 c6 c7
        have WH := hideP (whole8N_call m m pf N cf Fm W7 (HFR.out.later (B6.trans b7p)) HD.out HNN.out hlf'.out)
        go_wp2_with fail
        rw [← HW7.out]
        refine WH.out.mono ?_
        rintro e w8 ⟨p8, c8', rfl, hx, h8⟩
        obtain ⟨W8, hW8⟩ : ∃ W8, W8 = w8.alloc (.cells #[.int .i64 m, .int .i64 m, .slice p8 N c8'] 24) := ⟨_, rfl⟩
        have b8 : Bl w8 W8 := by rw [hW8]; exact (Bl.refl _).alloc _
        have k8 : MBox W8 w8.heap.size m m p8 N c8' := by rw [hW8]; exact MBox.new w8 _ _ _ _ _ _
        have HX8 := hideP (Mx.later hx b8)
        have b8p : Bl W7 W8 := h8.trans b8
        have HW8 := hideP hW8
        clear hW8 hx WH c0 c1 c2 c3 c4 c5 c6 c7
        obtain ⟨c0, c1, c2, c3, c4, c5, c6, c7⟩ := HC.out W8 (b6w.trans (b7p.trans b8p))
        rw [HW8.out] at c0 c1 c2 c3 c4 c5 c6 c7
        have WH := hideP (whole8N_call m m pg N cg Gm W8 (HGR.out.later (B6.trans (b7p.trans b8p))) HD.out HNN.out hlg'.out)
        go_wp2_with fail
        rw [← HW8.out]
        refine WH.out.mono ?_
        rintro e w9 ⟨p9, c9', rfl, hx, h9⟩
        obtain ⟨W9, hW9⟩ : ∃ W9, W9 = w9.alloc (.cells #[.int .i64 m, .int .i64 m, .slice p9 N c9'] 24) := ⟨_, rfl⟩
        have b9 : Bl w9 W9 := by rw [hW9]; exact (Bl.refl _).alloc _
        have k9 : MBox W9 w9.heap.size m m p9 N c9' := by rw [hW9]; exact MBox.new w9 _ _ _ _ _ _
        have HX9 := hideP (Mx.later hx b9)
        have b9p : Bl W8 W9 := h9.trans b9
        have HW9 := hideP hW9
        clear hW9 hx WH c0 c1 c2 c3 c4 c5 c6 c7
        have b79 : Bl W7 W9 := b8p.trans b9p
        have b89 : Bl W8 W9 := b9p
        have b69 : Bl w6 W9 := b7p.trans b79
        have b9w : Bl W W9 := b6w.trans b69
        have B9 : Bl w W9 := B6.trans b69
        obtain ⟨c0, c1, c2, c3, c4, c5, c6, c7⟩ := HC.out W9 (b9w)
        rw [HW9.out] at c0 c1 c2 c3 c4 c5 c6 c7
        go_wp2_with fail
        rw [← HW9.out]
        clear c0 c1 c2 c3 c4 c5 c6 c7
        refine (wpIn_wide (n := 8)).1 (region_q fm [some 103, some 104, some 105, some 106, some 107, some 102, some 108, some 109, some 18, none, some 19] (fun j => j == 7 || j == 10) 9 (by kernel_rfl) (by rfl)
              (fun j v u => match j with | 0 => v = .pointer (some ⟨w.heap.size, 1, none⟩) | 1 => v = .slice px m cx | 2 => ∃ q c, v = .slice q m c ∧ Rw 4 cellsN u (.slice q m c) (linJ m (fun i => wholeN (X.getD i 0))) | 3 => v = mV m m p7 N c7' | 4 => ∃ q c p' c', v = .tuple #[sJ q (m) c (m : Nat) (m : Nat) p' (N) c', .bool true] ∧ Rw 4 cellsN u (.slice q (m) c) (linJ (m) (fun i => wholeN (X.getD i 0))) ∧ Mx 4 cellsN u (m) (m) p' (N) c' (squareJ kdN m (fun i k => wholeN (ofL m Ro i k))) | 5 => ∃ q c p' c', v = .tuple #[sJ q (m) c (m : Nat) (m : Nat) p' (N) c', .bool true] ∧ Rw 4 cellsN u (.slice q (m) c) (linJ (m) (fun i => wholeN (X.getD i 0))) ∧ Mx 4 cellsN u (m) (m) p' (N) c' (squareJ kdN m (fun i k => wholeN (ofL m Ro i k))) | 6 => ∃ q c p' c', v = sJ q (m) c (m : Nat) (m : Nat) p' (N) c' ∧ Rw 4 cellsN u (.slice q (m) c) (linJ (m) (fun i => wholeN (X.getD i 0))) ∧ Mx 4 cellsN u (m) (m) p' (N) c' (squareJ kdN m (fun i k => wholeN (ofL m Ro i k))) | 7 => v = .bool true | 8 => ∃ b, v = .pointer (some ⟨b, 0, none⟩) ∧ W9.heap.size ≤ b ∧ SBox u b none 0 0 0 0 none 0 0 ∧ NoB u b | 10 => v = .bool true | _ => False)
              (by
                intro j v u u' hb h
                split at h <;> first | exact h | (obtain ⟨b, e, h1, h2, h3⟩ := h; exact ⟨b, e, h1, h2.later hb, h3.later hb h2.lt⟩) | (obtain ⟨q, c, p', c', e, h1, h2⟩ := h; exact ⟨q, c, p', c', e, h1.later hb, Mx.later h2 hb⟩) | (obtain ⟨q, c, e, h1⟩ := h; exact ⟨q, c, e, h1.later hb⟩) | (obtain ⟨g, e, h1⟩ := h; exact ⟨g, e, h1.later hb⟩)) (fun vs u0 u => ∃ b q c p' c', vs 8 = .pointer (some ⟨b, 0, none⟩) ∧ W9.heap.size ≤ b ∧ SBox u b q (m) c (m : Nat) (m : Nat) p' (N) c' ∧ Rw 4 cellsN u (.slice q (m) c) (linJ (m) (fun i => wholeN (X.getD i 0))) ∧ Mx 4 cellsN u (m) (m) p' (N) c' (squareJ kdN m (fun i k => wholeN (ofL m Ro i k))) ∧ Bl W9 u) ?step ?still ?store ?fin)
        case step =>
          intro j o t act u ho hdt hpu hsz hu hfr hin
          have hj : j < 11 := (Array.getElem?_eq_some_iff.1 ho).1
          obtain ⟨c0, c1, c2, c3, c4, c5, c6, c7⟩ := HC.out _ (b9w.trans hu)
          obtain ⟨y0, y1, y2, _, _, _, _⟩ := k7.later (b79.trans hu)
          rcases (by omega : j = 0 ∨ j = 1 ∨ j = 2 ∨ j = 3 ∨ j = 4 ∨ j = 5 ∨ j = 6 ∨ j = 7 ∨ j = 8 ∨ j = 9 ∨ j = 10) with rfl | rfl | rfl | rfl | rfl | rfl | rfl | rfl | rfl | rfl | rfl
          · simp only [List.getElem?_toArray, List.getElem?_cons_zero, List.getElem?_cons_succ, Option.some.injEq] at ho
            subst ho
            obtain rfl := Option.some.inj hdt
            have i1 : act.eval (.tmp (1 : Nat)) = .pointer (some ⟨w.heap.size, 0, none⟩) := hfr 1 (by decide)
            exact plain_wp (by intro c h; cases h) (fun _ _ => trivial) (by simp only [execOp, i1, evalC, evalF, evalG]; simp [go_sem, c1]) ⟨_, rfl, rfl, Bl.refl _⟩
          · simp only [List.getElem?_toArray, List.getElem?_cons_zero, List.getElem?_cons_succ, Option.some.injEq] at ho
            subst ho
            obtain rfl := Option.some.inj hdt
            have i103 : (act.eval (.tmp (103 : Nat))) = .pointer (some ⟨w.heap.size, 1, none⟩) := hin ⟨0, .data⟩ (by simp) rfl 103 rfl
            exact plain_wp (by intro c h; cases h) (fun _ _ => trivial) (by simp only [execOp, i103, evalC, evalF, evalG]; simp [go_sem, c1]) ⟨_, rfl, rfl, Bl.refl _⟩
          · simp only [List.getElem?_toArray, List.getElem?_cons_zero, List.getElem?_cons_succ, Option.some.injEq] at ho
            subst ho
            obtain rfl := Option.some.inj hdt
            have i104 : (act.eval (.tmp (104 : Nat))) = .slice px m cx := hin ⟨1, .data⟩ (by simp) rfl 104 rfl
            refine enter_wp 37 #[.slice px m cx] (by intro c h; cases h) (fun _ _ => trivial) (by simp only [execOp, evalC, evalF, evalG, resolve, i104, List.map_toArray, List.map_cons, List.map_nil]; simp [invoke, egWN, Result.andThen, go_sem]) (by intro h; cases h) (callsIn_wide.2 (whole_linN px m cx (fun i => X.getD i 0) u (HXR.out.later (B9.trans hu)) (by omega))) ?_
            rintro e w' ⟨q, c, rfl, hR, hb⟩
            exact ⟨_, rfl, _, rfl, ⟨q, c, rfl, hR⟩, hb⟩
          · simp only [List.getElem?_toArray, List.getElem?_cons_zero, List.getElem?_cons_succ, Option.some.injEq] at ho
            subst ho
            obtain rfl := Option.some.inj hdt
            have i12 : act.eval (.tmp (12 : Nat)) = .pointer (some ⟨w7.heap.size, 0, none⟩) := hfr 12 (by decide)
            exact plain_wp (by intro c h; cases h) (fun _ _ => trivial) (by simp only [execOp, i12, evalC, evalF, evalG]; simp [go_sem, y0, y1, y2]) ⟨_, rfl, rfl, Bl.refl _⟩
          · simp only [List.getElem?_toArray, List.getElem?_cons_zero, List.getElem?_cons_succ, Option.some.injEq] at ho
            subst ho
            obtain rfl := Option.some.inj hdt
            have i105 : ∃ q c, (act.eval (.tmp (105 : Nat))) = .slice q m c ∧ Rw 4 cellsN u (.slice q m c) (linJ m (fun i => wholeN (X.getD i 0))) := hin ⟨2, .data⟩ (by simp) rfl 105 rfl
            have i106 : (act.eval (.tmp (106 : Nat))) = mV m m p7 N c7' := hin ⟨3, .data⟩ (by simp) rfl 106 rfl
            obtain ⟨q0, cc0, e0, hq⟩ := i105
            refine enter_wp 36 #[.slice q0 m cc0, mV m m p7 N c7'] (by intro c h; cases h) (fun _ _ => trivial) (by simp only [execOp, evalC, evalF, evalG, resolve, e0, i106, List.map_toArray, List.map_cons, List.map_nil]; simp [invoke, egNN, Result.andThen, go_sem]) (by intro h; cases h) (callsIn_wide.2 (jNewN m q0 cc0 (fun i => wholeN (X.getD i 0)) p7 N c7' (fun i k => wholeN (ofL m Ro i k)) u hq.q (HX7.out.later (b79.trans hu)) hm4)) ?_
            rintro e w' ⟨q, c, p', c', rfl, ⟨hR, hM⟩, hb⟩
            exact ⟨_, rfl, _, rfl, ⟨q, c, p', c', rfl, hR, hM⟩, hb⟩
          · simp only [List.getElem?_toArray, List.getElem?_cons_zero, List.getElem?_cons_succ, Option.some.injEq] at ho
            subst ho
            obtain rfl := Option.some.inj hdt
            have i107 : ∃ q c p' c', (act.eval (.tmp (107 : Nat))) = .tuple #[sJ q (m) c (m : Nat) (m : Nat) p' (N) c', .bool true] ∧ Rw 4 cellsN u (.slice q (m) c) (linJ (m) (fun i => wholeN (X.getD i 0))) ∧ Mx 4 cellsN u (m) (m) p' (N) c' (squareJ kdN m (fun i k => wholeN (ofL m Ro i k))) := hin ⟨4, .data⟩ (by simp) rfl 107 rfl
            obtain ⟨q0, c0', p0, c0, e1, hq1, hq2⟩ := i107
            exact plain_wp (by intro c h; cases h) (fun _ _ => trivial) (by simp only [execOp, e1]; simp [go_sem]) ⟨_, rfl, ⟨q0, c0', p0, c0, rfl, hq1, hq2⟩, Bl.refl _⟩
          · simp only [List.getElem?_toArray, List.getElem?_cons_zero, List.getElem?_cons_succ, Option.some.injEq] at ho
            subst ho
            obtain rfl := Option.some.inj hdt
            have i102 : ∃ q c p' c', (act.eval (.tmp (102 : Nat))) = .tuple #[sJ q (m) c (m : Nat) (m : Nat) p' (N) c', .bool true] ∧ Rw 4 cellsN u (.slice q (m) c) (linJ (m) (fun i => wholeN (X.getD i 0))) ∧ Mx 4 cellsN u (m) (m) p' (N) c' (squareJ kdN m (fun i k => wholeN (ofL m Ro i k))) := hin ⟨5, .data⟩ (by simp) rfl 102 rfl
            obtain ⟨q0, c0', p0, c0, e1, hq1, hq2⟩ := i102
            exact plain_wp (by intro c h; cases h) (fun _ _ => trivial) (by simp only [execOp, e1]; simp [go_sem]) ⟨_, rfl, ⟨q0, c0', p0, c0, rfl, hq1, hq2⟩, Bl.refl _⟩
          · cases hpu
          · simp only [List.getElem?_toArray, List.getElem?_cons_zero, List.getElem?_cons_succ, Option.some.injEq] at ho
            subst ho
            obtain rfl := Option.some.inj hdt
            exact plain_wp (by intro c h; cases h) (fun _ _ => trivial) (w' := u.alloc (.cells #[.slice none 0 0, .int .i64 0, .int .i64 0, .slice none 0 0] 37)) (v := .pointer (some ⟨u.heap.size, 0, none⟩)) (by simp only [execOp]; simp [go_sem]) ⟨_, rfl, ⟨u.heap.size, rfl, hu.size, SBox.new u _ _ _ _ _ _ _ _ _, noB_newSN u _⟩, (Bl.refl _).alloc _⟩
          · simp only [List.getElem?_toArray, List.getElem?_cons_zero, List.getElem?_cons_succ, Option.some.injEq] at ho
            subst ho
            cases hdt
          · cases hpu
        case still =>
          intro j o t act u0 u ho hdt hpu hsz hu hfr hin
          have hj : j < 11 := (Array.getElem?_eq_some_iff.1 ho).1
          obtain ⟨c0, c1, c2, c3, c4, c5, c6, c7⟩ := HC.out _ (b9w.trans hu)
          obtain ⟨y0, y1, y2, _, _, _, _⟩ := k7.later (b79.trans hu)
          rcases (by omega : j = 0 ∨ j = 1 ∨ j = 2 ∨ j = 3 ∨ j = 4 ∨ j = 5 ∨ j = 6 ∨ j = 7 ∨ j = 8 ∨ j = 9 ∨ j = 10) with rfl | rfl | rfl | rfl | rfl | rfl | rfl | rfl | rfl | rfl | rfl
          · cases hpu
          · cases hpu
          · cases hpu
          · cases hpu
          · cases hpu
          · cases hpu
          · cases hpu
          · simp only [List.getElem?_toArray, List.getElem?_cons_zero, List.getElem?_cons_succ, Option.some.injEq] at ho
            subst ho
            obtain rfl := Option.some.inj hdt
            have i102 : ∃ q c p' c', (act.eval (.tmp (102 : Nat))) = .tuple #[sJ q (m) c (m : Nat) (m : Nat) p' (N) c', .bool true] ∧ Rw 4 cellsN u0 (.slice q (m) c) (linJ (m) (fun i => wholeN (X.getD i 0))) ∧ Mx 4 cellsN u0 (m) (m) p' (N) c' (squareJ kdN m (fun i k => wholeN (ofL m Ro i k))) := hin ⟨5, .data⟩ (by simp) rfl 102 rfl
            obtain ⟨q0, c0', p0, c0, e1, hq1, hq2⟩ := i102
            exact plain_wp (by intro c h; cases h) (fun _ _ => trivial) (by simp only [execOp, e1]; simp [go_sem]) ⟨_, rfl, rfl, rfl⟩
          · cases hpu
          · cases hpu
          · simp only [List.getElem?_toArray, List.getElem?_cons_zero, List.getElem?_cons_succ, Option.some.injEq] at ho
            subst ho
            obtain rfl := Option.some.inj hdt
            have i109 : (act.eval (.tmp (109 : Nat))) = .bool true := hin ⟨7, .data⟩ (by simp) rfl 109 rfl
            exact plain_wp (by intro c h; cases h) (fun _ _ => trivial) (by simp only [execOp, i109, evalC, evalF, evalG]; simp [go_sem]) ⟨_, rfl, rfl, rfl⟩
        case store =>
          intro o act u vs ho hsz hu hfr hin
          simp only [List.getElem?_toArray, List.getElem?_cons_zero, List.getElem?_cons_succ, Option.some.injEq] at ho
          subst ho
          obtain ⟨i18, k18⟩ : act.eval (.tmp (18 : Nat)) = vs 8 ∧ (∃ b, (vs 8) = .pointer (some ⟨b, 0, none⟩) ∧ W9.heap.size ≤ b ∧ SBox u b none 0 0 0 0 none 0 0 ∧ NoB u b) := hin 8 18 rfl rfl
          obtain ⟨i108, k108⟩ : act.eval (.tmp (108 : Nat)) = vs 6 ∧ (∃ q c p' c', (vs 6) = sJ q (m) c (m : Nat) (m : Nat) p' (N) c' ∧ Rw 4 cellsN u (.slice q (m) c) (linJ (m) (fun i => wholeN (X.getD i 0))) ∧ Mx 4 cellsN u (m) (m) p' (N) c' (squareJ kdN m (fun i k => wholeN (ofL m Ro i k)))) := hin 6 108 rfl rfl
          obtain ⟨b, e1, hb, bx, nb⟩ := k18
          obtain ⟨q0, c0', p0, c0, e2, hq1, hq2⟩ := k108
          rw [e1] at i18
          rw [e2] at i108
          obtain ⟨d0, d1, d2, d3, g0, g1, g2, g3, ltb⟩ := id bx
          exact skip_wp (by intro c h; cases h) (fun _ _ => trivial) (by simp only [execOp, i18, i108]; simp [go_sem, d0, d1, d2, d3, g0, g1, g2, g3]) ⟨rfl, b, q0, c0', p0, c0, e1, hb, bx.fill _ _ _ _ _ _ _ _, hq1.but (but4N _ _ _ _ _ _) (fun g hg => noB_rwN hq1 (m1) nb g hg), Mx.but hq2 (but4N _ _ _ _ _ _) (fun g hg => Ne.symm (noB_mx boolN hq2 nb g hg)), Bl.put4 hu hb _ _ _ _⟩
        case fin =>
          intro vs vb u0 u hu hin hps
          have a0 := hin 0 103 rfl
          have a1 := hin 1 104 rfl
          have a2 := hin 2 105 rfl
          have a3 := hin 3 106 rfl
          have a4 := hin 4 107 rfl
          have a5 := hin 5 102 rfl
          have a6 := hin 6 108 rfl
          have a7 := hin 7 109 rfl
          have a8 := hin 8 18 rfl
          have a10 := hin 10 19 rfl
          simp only [putL, Act.put, List.setIfInBounds_toArray, List.set_cons_zero, List.set_cons_succ, Nat.zero_add, Nat.reduceAdd, Nat.reduceBEq, Bool.or_false, Bool.or_true, Bool.false_or, Bool.true_or, Bool.false_eq_true, if_false, if_true, reduceIte, Nat.reduceEqDiff, beq_self_eq_true, Bool.or_self] at a0 a1 a2 a3 a4 a5 a6 a7 a8 a10 ⊢
          rw [if_pos (by decide)] at hps
          simp only [a0, a1, a3, a7, a10]
          obtain ⟨b, q10, cq10, p10, c10, eb, hb, k10, hR, hM, hbu⟩ := hps
          simp only [eb]
          obtain ⟨wa, rfl⟩ : ∃ wa, wa = u := ⟨_, rfl⟩
          have HR10 := hideP hR
          have HM10 := hideP hM
          clear a2 a4 a5 a6 a8 hu hin hR hM
          have b9a : Bl W9 wa := hbu
          obtain ⟨s0, s1, s2, s3, _, _, _, _, _⟩ := id k10
          obtain ⟨y0, y1, y2, _, _, _, _⟩ := k8.later (b89.trans b9a)
          obtain ⟨z0, z1, z2, _, _, _, _⟩ := k9.later b9a
          have PR := hideP (jPredictN m N q10 cq10 (fun i => wholeN (X.getD i 0)) p10 c10 (squareJ kdN m (fun i k => wholeN (ofL m Ro i k))) p8 c8' (fun i k => wholeN (ofL m Fm i k)) p9 c9' (fun i k => wholeN (ofL m Gm i k)) wa HR10.out.q HM10.out (HX8.out.later (b89.trans b9a)) (HX9.out.later b9a) hm4)
          go_wp2_with fail
          refine PR.out.mono ?_
          rintro e w10 ⟨q11, cq11, p11, c11, rfl, ⟨hR, hM⟩, h10⟩
          obtain ⟨W11, hW11⟩ : ∃ W11, W11 = w10.alloc (.cells #[.slice q11 m cq11, .int .i64 m, .int .i64 m, .slice p11 N c11] 37) := ⟨_, rfl⟩
          have b11 : Bl w10 W11 := by rw [hW11]; exact (Bl.refl _).alloc _
          have k11 : SBox W11 w10.heap.size q11 m cq11 m m p11 N c11 := by rw [hW11]; exact SBox.new w10 _ _ _ _ _ _ _ _ _
          have HR11 := hideP (hR.later b11)
          have HM11 := hideP (Mx.later hM b11)
          have b911 : Bl W9 W11 := b9a.trans (h10.trans b11)
          have b611 : Bl w6 W11 := b69.trans b911
          have b511 : Bl w5 W11 := b56.trans b611
          have B11 : Bl w W11 := B9.trans b911
          have b11w : Bl W W11 := b9w.trans b911
          have HW11 := hideP hW11
          clear hW11 hR hM PR s0 s1 s2 s3 y0 y1 y2 z0 z1 z2
          go_wp2_with fail
          rw [← HW11.out]
          refine (wpIn_wide (n := 8)).1 (region_u (updN_ok (m) (N) (upXJ kdN m (appJ kdN m (fun i k => wholeN (ofL m Fm i k)) (fun i => wholeN (X.getD i 0))) (predJ kdN m (fun i k => wholeN (ofL m Fm i k)) (squareJ kdN m (fun i k => wholeN (ofL m Ro i k))) (fun i k => wholeN (ofL m Gm i k))) (fun i => wholeN (H.getD i 0)) (ptE (foN r) (foB r)) (ptE (foN z) (foB z))) (upPJ kdN (fun i j => wholeN (unitI i j)) m (predJ kdN m (fun i k => wholeN (ofL m Fm i k)) (squareJ kdN m (fun i k => wholeN (ofL m Ro i k))) (fun i k => wholeN (ofL m Gm i k))) (fun i => wholeN (H.getD i 0)) (ptE (foN r) (foB r))) (surpJ kdN m (appJ kdN m (fun i k => wholeN (ofL m Fm i k)) (fun i => wholeN (X.getD i 0))) (fun i => wholeN (H.getD i 0)) (ptE (foN z) (foB z))) (spreadJ kdN m (predJ kdN m (fun i k => wholeN (ofL m Fm i k)) (squareJ kdN m (fun i k => wholeN (ofL m Ro i k))) (fun i k => wholeN (ofL m Gm i k))) (fun i => wholeN (H.getD i 0)) (ptE (foN r) (foB r)))) fm [some 118, some 119, some 120, some 121, some 122, some 123, some 124, some 125, some 126, some 127, some 128, some 129, some 130, some 117, some 131, some 132, some 133, some 22, some 23, none, none, some 24] 12 (by kernel_rfl) (by rfl) 130 117 131 132 133 22 23 24 rfl
                (fun j v u => match j with | 0 => v = sJ q11 m cq11 m m p11 N c11 | 1 => v = .pointer (some ⟨w.heap.size, 5, none⟩) | 2 => v = .slice ph m ch | 3 => ∃ q c, v = .slice q m c ∧ Rw 4 cellsN u (.slice q m c) (linJ m (fun i => wholeN (H.getD i 0))) | 4 => v = enV (ptE 0 (frB 0)) | 5 => v = .pointer (some ⟨w.heap.size, 6, none⟩) | 6 => v = .int .i64 r | 7 => v = enV (ptE (foN r) (foB r)) | 8 => v = enV (ptE 0 (frB 0)) | 9 => v = .pointer (some ⟨w.heap.size, 7, none⟩) | 10 => v = .int .i64 z | 11 => v = enV (ptE (foN z) (foB z)) | _ => False)
                (by
                  intro j v u u' hb h
                  split at h <;> first | exact h | (obtain ⟨q, c, e, h1⟩ := h; exact ⟨q, c, e, h1.later hb⟩) | (obtain ⟨g, e, h1⟩ := h; exact ⟨g, e, h1.later hb⟩)) ?step ?call ?mv ?x0 ?x1 ?x2 ?la ?lb ?sa ?sb ?asg ?fin)
          case step =>
            intro j o t act u hjk ho hdt hsz hu hfr hin
            obtain ⟨c0, c1, c2, c3, c4, c5, c6, c7⟩ := HC.out _ (b11w.trans hu)
            obtain ⟨s0, s1, s2, s3, _, _, _, _, _⟩ := k11.later hu
            rcases (by omega : j = 0 ∨ j = 1 ∨ j = 2 ∨ j = 3 ∨ j = 4 ∨ j = 5 ∨ j = 6 ∨ j = 7 ∨ j = 8 ∨ j = 9 ∨ j = 10 ∨ j = 11) with rfl | rfl | rfl | rfl | rfl | rfl | rfl | rfl | rfl | rfl | rfl | rfl
            · simp only [List.getElem?_toArray, List.getElem?_cons_zero, List.getElem?_cons_succ, Option.some.injEq] at ho
              subst ho
              obtain rfl := Option.some.inj hdt
              have i20 : act.eval (.tmp (20 : Nat)) = .pointer (some ⟨w10.heap.size, 0, none⟩) := hfr 20 (by decide)
              exact plain_wp (by intro c h; cases h) (fun _ _ => trivial) (by simp only [execOp, i20, evalC, evalF, evalG]; simp [go_sem, s0, s1, s2, s3]) ⟨_, rfl, rfl, Bl.refl _⟩
            · simp only [List.getElem?_toArray, List.getElem?_cons_zero, List.getElem?_cons_succ, Option.some.injEq] at ho
              subst ho
              obtain rfl := Option.some.inj hdt
              have i1 : act.eval (.tmp (1 : Nat)) = .pointer (some ⟨w.heap.size, 0, none⟩) := hfr 1 (by decide)
              exact plain_wp (by intro c h; cases h) (fun _ _ => trivial) (by simp only [execOp, i1, evalC, evalF, evalG]; simp [go_sem, c5]) ⟨_, rfl, rfl, Bl.refl _⟩
            · simp only [List.getElem?_toArray, List.getElem?_cons_zero, List.getElem?_cons_succ, Option.some.injEq] at ho
              subst ho
              obtain rfl := Option.some.inj hdt
              have i119 : (act.eval (.tmp (119 : Nat))) = .pointer (some ⟨w.heap.size, 5, none⟩) := hin ⟨1, .data⟩ (by simp) rfl 119 rfl
              exact plain_wp (by intro c h; cases h) (fun _ _ => trivial) (by simp only [execOp, i119, evalC, evalF, evalG]; simp [go_sem, c5]) ⟨_, rfl, rfl, Bl.refl _⟩
            · simp only [List.getElem?_toArray, List.getElem?_cons_zero, List.getElem?_cons_succ, Option.some.injEq] at ho
              subst ho
              obtain rfl := Option.some.inj hdt
              have i120 : (act.eval (.tmp (120 : Nat))) = .slice ph m ch := hin ⟨2, .data⟩ (by simp) rfl 120 rfl
              refine enter_wp 37 #[.slice ph m ch] (by intro c h; cases h) (fun _ _ => trivial) (by simp only [execOp, evalC, evalF, evalG, resolve, i120, List.map_toArray, List.map_cons, List.map_nil]; simp [invoke, egWN, Result.andThen, go_sem]) (by intro h; cases h) (callsIn_wide.2 (whole_linN ph m ch (fun i => H.getD i 0) u (HHR.out.later (B11.trans hu)) (by omega))) ?_
              rintro e w' ⟨q, c, rfl, hR, hb⟩
              exact ⟨_, rfl, _, rfl, ⟨q, c, rfl, hR⟩, hb⟩
            · simp only [List.getElem?_toArray, List.getElem?_cons_zero, List.getElem?_cons_succ, Option.some.injEq] at ho
              subst ho
              obtain rfl := Option.some.inj hdt
              refine enter_wp 38 #[.int .i64 0] (by intro c h; cases h) (fun _ _ => trivial) (by simp only [execOp, evalC, evalF, evalG, resolve, evalC, List.map_toArray, List.map_cons, List.map_nil]; simp [invoke, egP, Result.andThen, go_sem]) (by intro h; cases h) (callsIn_wide.2 (pointE_any 0 u)) ?_
              rintro e w' ⟨rfl, hb⟩
              exact ⟨_, rfl, _, rfl, rfl, hb⟩
            · simp only [List.getElem?_toArray, List.getElem?_cons_zero, List.getElem?_cons_succ, Option.some.injEq] at ho
              subst ho
              obtain rfl := Option.some.inj hdt
              have i1 : act.eval (.tmp (1 : Nat)) = .pointer (some ⟨w.heap.size, 0, none⟩) := hfr 1 (by decide)
              exact plain_wp (by intro c h; cases h) (fun _ _ => trivial) (by simp only [execOp, i1, evalC, evalF, evalG]; simp [go_sem, c6]) ⟨_, rfl, rfl, Bl.refl _⟩
            · simp only [List.getElem?_toArray, List.getElem?_cons_zero, List.getElem?_cons_succ, Option.some.injEq] at ho
              subst ho
              obtain rfl := Option.some.inj hdt
              have i123 : (act.eval (.tmp (123 : Nat))) = .pointer (some ⟨w.heap.size, 6, none⟩) := hin ⟨5, .data⟩ (by simp) rfl 123 rfl
              exact plain_wp (by intro c h; cases h) (fun _ _ => trivial) (by simp only [execOp, i123, evalC, evalF, evalG]; simp [go_sem, c6]) ⟨_, rfl, rfl, Bl.refl _⟩
            · simp only [List.getElem?_toArray, List.getElem?_cons_zero, List.getElem?_cons_succ, Option.some.injEq] at ho
              subst ho
              obtain rfl := Option.some.inj hdt
              have i122 : (act.eval (.tmp (122 : Nat))) = enV (ptE 0 (frB 0)) := hin ⟨4, .data⟩ (by simp) rfl 122 rfl
              have i124 : (act.eval (.tmp (124 : Nat))) = .int .i64 r := hin ⟨6, .data⟩ (by simp) rfl 124 rfl
              refine enter_wp 39 #[enV (ptE 0 (frB 0)), .int .i64 r] (by intro c h; cases h) (fun _ _ => trivial) (by simp only [execOp, evalC, evalF, evalG, resolve, i122, i124, List.map_toArray, List.map_cons, List.map_nil]; simp [invoke, egO, Result.andThen, go_sem]) (by intro h; cases h) (callsIn_wide.2 (ofE_any (ptE 0 (frB 0)) r u)) ?_
              rintro e w' ⟨rfl, hb⟩
              exact ⟨_, rfl, _, rfl, rfl, hb⟩
            · simp only [List.getElem?_toArray, List.getElem?_cons_zero, List.getElem?_cons_succ, Option.some.injEq] at ho
              subst ho
              obtain rfl := Option.some.inj hdt
              refine enter_wp 38 #[.int .i64 0] (by intro c h; cases h) (fun _ _ => trivial) (by simp only [execOp, evalC, evalF, evalG, resolve, evalC, List.map_toArray, List.map_cons, List.map_nil]; simp [invoke, egP, Result.andThen, go_sem]) (by intro h; cases h) (callsIn_wide.2 (pointE_any 0 u)) ?_
              rintro e w' ⟨rfl, hb⟩
              exact ⟨_, rfl, _, rfl, rfl, hb⟩
            · simp only [List.getElem?_toArray, List.getElem?_cons_zero, List.getElem?_cons_succ, Option.some.injEq] at ho
              subst ho
              obtain rfl := Option.some.inj hdt
              have i1 : act.eval (.tmp (1 : Nat)) = .pointer (some ⟨w.heap.size, 0, none⟩) := hfr 1 (by decide)
              exact plain_wp (by intro c h; cases h) (fun _ _ => trivial) (by simp only [execOp, i1, evalC, evalF, evalG]; simp [go_sem, c7]) ⟨_, rfl, rfl, Bl.refl _⟩
            · simp only [List.getElem?_toArray, List.getElem?_cons_zero, List.getElem?_cons_succ, Option.some.injEq] at ho
              subst ho
              obtain rfl := Option.some.inj hdt
              have i127 : (act.eval (.tmp (127 : Nat))) = .pointer (some ⟨w.heap.size, 7, none⟩) := hin ⟨9, .data⟩ (by simp) rfl 127 rfl
              exact plain_wp (by intro c h; cases h) (fun _ _ => trivial) (by simp only [execOp, i127, evalC, evalF, evalG]; simp [go_sem, c7]) ⟨_, rfl, rfl, Bl.refl _⟩
            · simp only [List.getElem?_toArray, List.getElem?_cons_zero, List.getElem?_cons_succ, Option.some.injEq] at ho
              subst ho
              obtain rfl := Option.some.inj hdt
              have i126 : (act.eval (.tmp (126 : Nat))) = enV (ptE 0 (frB 0)) := hin ⟨8, .data⟩ (by simp) rfl 126 rfl
              have i128 : (act.eval (.tmp (128 : Nat))) = .int .i64 z := hin ⟨10, .data⟩ (by simp) rfl 128 rfl
              refine enter_wp 39 #[enV (ptE 0 (frB 0)), .int .i64 z] (by intro c h; cases h) (fun _ _ => trivial) (by simp only [execOp, evalC, evalF, evalG, resolve, i126, i128, List.map_toArray, List.map_cons, List.map_nil]; simp [invoke, egO, Result.andThen, go_sem]) (by intro h; cases h) (callsIn_wide.2 (ofE_any (ptE 0 (frB 0)) z u)) ?_
              rintro e w' ⟨rfl, hb⟩
              exact ⟨_, rfl, _, rfl, rfl, hb⟩
          case call =>
            intro o act u ho hsz hu hfr hin
            obtain ⟨c0, c1, c2, c3, c4, c5, c6, c7⟩ := HC.out _ (b11w.trans hu)
            obtain ⟨s0, s1, s2, s3, _, _, _, _, _⟩ := k11.later hu
            simp only [List.getElem?_toArray, List.getElem?_cons_zero, List.getElem?_cons_succ, Option.some.injEq, Nat.reduceAdd] at ho
            subst ho
            have i118 : (act.eval (.tmp (118 : Nat))) = sJ q11 m cq11 m m p11 N c11 := hin ⟨0, .data⟩ (by simp) rfl 118 rfl
            have i121 : ∃ q c, (act.eval (.tmp (121 : Nat))) = .slice q m c ∧ Rw 4 cellsN u (.slice q m c) (linJ m (fun i => wholeN (H.getD i 0))) := hin ⟨3, .data⟩ (by simp) rfl 121 rfl
            have i125 : (act.eval (.tmp (125 : Nat))) = enV (ptE (foN r) (foB r)) := hin ⟨7, .data⟩ (by simp) rfl 125 rfl
            have i129 : (act.eval (.tmp (129 : Nat))) = enV (ptE (foN z) (foB z)) := hin ⟨11, .data⟩ (by simp) rfl 129 rfl
            obtain ⟨q0, cc0, e0, hq⟩ := i121
            refine enter_wp 25 #[sJ q11 m cq11 m m p11 N c11, .slice q0 m cc0, enV (ptE (foN r) (foB r)), enV (ptE (foN z) (foB z))] (by intro c h; cases h) (fun _ _ => trivial) (by simp only [execOp, evalC, evalF, evalG, resolve, i118, e0, i125, i129, List.map_toArray, List.map_cons, List.map_nil]; simp [invoke, egUN, Result.andThen, go_sem]) (by intro h; cases h) (callsIn_wide.2 (jUpdateN m N q11 cq11 (appJ kdN m (fun i k => wholeN (ofL m Fm i k)) (fun i => wholeN (X.getD i 0))) p11 c11 (predJ kdN m (fun i k => wholeN (ofL m Fm i k)) (squareJ kdN m (fun i k => wholeN (ofL m Ro i k))) (fun i k => wholeN (ofL m Gm i k))) q0 cc0 (fun i => wholeN (H.getD i 0)) (ptE (foN r) (foB r)) (ptE (foN z) (foB z)) u (HR11.out.later hu).q (HM11.out.later hu) hq.q hm4)) ?_
            rintro e w' ⟨q, c, p', c', rfl, ⟨hR, hM, hF1, hF2⟩, hb⟩
            exact ⟨_, rfl, (q, c, p', c'), rfl, ⟨hR, hM⟩, hb, fun b hb' _ => ⟨fun g hg => by have := hF1 g hg; omega, fun g hg => by have := hF2 g hg; omega⟩⟩
          case mv =>
            intro o act u x ho hx
            simp only [List.getElem?_toArray, List.getElem?_cons_zero, List.getElem?_cons_succ, Option.some.injEq, Nat.reduceAdd] at ho
            subst ho
            exact plain_wp (by intro c h; cases h) (fun _ _ => trivial) (by simp only [execOp, hx]; simp [go_sem]) ⟨rfl, rfl⟩
          case x0 =>
            intro o act u x y z ho hx
            simp only [List.getElem?_toArray, List.getElem?_cons_zero, List.getElem?_cons_succ, Option.some.injEq, Nat.reduceAdd] at ho
            subst ho
            exact plain_wp (by intro c h; cases h) (fun _ _ => trivial) (by simp only [execOp, hx]; simp [go_sem]) ⟨rfl, rfl⟩
          case x1 =>
            intro o act u x y z ho hx
            simp only [List.getElem?_toArray, List.getElem?_cons_zero, List.getElem?_cons_succ, Option.some.injEq, Nat.reduceAdd] at ho
            subst ho
            exact plain_wp (by intro c h; cases h) (fun _ _ => trivial) (by simp only [execOp, hx]; simp [go_sem]) ⟨rfl, rfl⟩
          case x2 =>
            intro o act u x y z ho hx
            simp only [List.getElem?_toArray, List.getElem?_cons_zero, List.getElem?_cons_succ, Option.some.injEq, Nat.reduceAdd] at ho
            subst ho
            exact plain_wp (by intro c h; cases h) (fun _ _ => trivial) (by simp only [execOp, hx]; simp [go_sem]) ⟨rfl, rfl⟩
          case la =>
            intro o act u ho
            simp only [List.getElem?_toArray, List.getElem?_cons_zero, List.getElem?_cons_succ, Option.some.injEq, Nat.reduceAdd] at ho
            subst ho
            exact plain_wp (by intro c h; cases h) (fun _ _ => trivial) (w' := u.alloc (.cells #[.slice none 0 0, .int .i64 0, .int .i64 0, .slice none 0 0] 37)) (v := .pointer (some ⟨u.heap.size, 0, none⟩)) (by simp only [execOp]; simp [go_sem]) ⟨rfl, SBox.new u _ _ _ _ _ _ _ _ _, (Bl.refl _).alloc _, by simp⟩
          case lb =>
            intro o act u ho
            simp only [List.getElem?_toArray, List.getElem?_cons_zero, List.getElem?_cons_succ, Option.some.injEq, Nat.reduceAdd] at ho
            subst ho
            exact plain_wp (by intro c h; cases h) (fun _ _ => trivial) (w' := u.alloc (.cells #[.int .i64 0, .int .i64 0, .int .i64 0, .bool false, .int .i64 0, .int .i64 0, .int .i64 0, .bool false] 46)) (v := .pointer (some ⟨u.heap.size, 0, none⟩)) (by simp only [execOp]; simp [go_sem]) ⟨rfl, NBoxN.new u zeroE zeroE _, (Bl.refl _).alloc _, by simp⟩
          case sa =>
            intro o act u D b ho hA h0 hz hdat hoff hbl hb
            simp only [List.getElem?_toArray, List.getElem?_cons_zero, List.getElem?_cons_succ, Option.some.injEq, Nat.reduceAdd] at ho
            subst ho
            obtain ⟨q0, c0, p0, c1⟩ := D
            replace h0 : act.eval (.tmp 131) = sJ q0 (m) c0 (m) (m) p0 (N) c1 := h0
            obtain ⟨d0, d1, d2, d3, g0, g1, g2, g3, lt⟩ := (show SBox u b none 0 0 0 0 none 0 0 from hz)
            exact skip_wp (by intro c h; cases h) (fun _ _ => trivial) (by simp only [execOp, hA, h0]; simp [go_sem, d0, d1, d2, d3, g0, g1, g2, g3]) ⟨rfl, SBox.fill (show SBox u b none 0 0 0 0 none 0 0 from hz) _ _ _ _ _ _ _ _, ⟨hdat.1.but (but4N _ _ _ _ _ _) (fun g hg => hoff.1 g hg), hdat.2.but (but4N _ _ _ _ _ _) (fun g hg => hoff.2 g hg)⟩, Bl.put4 hbl hb _ _ _ _, fun b' h' => heap4N _ h' _ _ _ _, by simp⟩
          case sb =>
            intro o act u D b ho hA h0 hz hdat hoff hbl hb
            simp only [List.getElem?_toArray, List.getElem?_cons_zero, List.getElem?_cons_succ, Option.some.injEq, Nat.reduceAdd] at ho
            subst ho
            obtain ⟨q0, c0, p0, c1⟩ := D
            replace h0 : act.eval (.tmp 132) = newsVN (surpJ kdN m (appJ kdN m (fun i k => wholeN (ofL m Fm i k)) (fun i => wholeN (X.getD i 0))) (fun i => wholeN (H.getD i 0)) (ptE (foN z) (foB z))) (spreadJ kdN m (predJ kdN m (fun i k => wholeN (ofL m Fm i k)) (squareJ kdN m (fun i k => wholeN (ofL m Ro i k))) (fun i k => wholeN (ofL m Gm i k))) (fun i => wholeN (H.getD i 0)) (ptE (foN r) (foB r))) := h0
            obtain ⟨d0, d1, d2, d3, d4, d5, d6, d7, g0, g1, g2, g3, g4, g5, g6, g7, lt⟩ := (show NBoxN u b zeroE zeroE from hz)
            exact skip_wp (by intro c h; cases h) (fun _ _ => trivial) (by simp only [execOp, hA, h0]; simp [go_sem, d0, d1, d2, d3, d4, d5, d6, d7, g0, g1, g2, g3, g4, g5, g6, g7]) ⟨rfl, NBoxN.fill (show NBoxN u b zeroE zeroE from hz) _ _, ⟨hdat.1.but (butNN _ _ _ _) (fun g hg => hoff.1 g hg), hdat.2.but (butNN _ _ _ _) (fun g hg => hoff.2 g hg)⟩, blNN b hbl hb _ _, fun b' h' => heapNN _ h' _ _, by simp⟩
          case asg =>
            intro o act u x ho hx
            simp only [List.getElem?_toArray, List.getElem?_cons_zero, List.getElem?_cons_succ, Option.some.injEq, Nat.reduceAdd] at ho
            subst ho
            exact plain_wp (by intro c h; cases h) (fun _ _ => trivial) (by simp only [execOp, hx]; simp [go_sem]) ⟨rfl, rfl⟩
          case fin =>
            intro vs u D b12 n12' hu e9' e5' e6' hb1 hb2 hsa hsb hdat
            simp only [putL, Act.put, List.setIfInBounds_toArray, List.set_cons_zero, List.set_cons_succ, Nat.zero_add, Nat.reduceAdd] at e9' e5' e6' ⊢
            replace e9' := Eq.trans e9' (show _ = Value.bool true from rfl)
            simp only [e9', e5', e6']
            obtain ⟨q12, cq12, p12, c12⟩ := D
            obtain ⟨w12, rfl⟩ : ∃ w12, w12 = u := ⟨_, rfl⟩
            have k12 : SBox w12 b12 q12 m cq12 m m p12 N c12 := hsa
            have n12 : NBoxN w12 n12' (surpJ kdN m (appJ kdN m (fun i k => wholeN (ofL m Fm i k)) (fun i => wholeN (X.getD i 0))) (fun i => wholeN (H.getD i 0)) (ptE (foN z) (foB z))) (spreadJ kdN m (predJ kdN m (fun i k => wholeN (ofL m Fm i k)) (squareJ kdN m (fun i k => wholeN (ofL m Ro i k))) (fun i k => wholeN (ofL m Gm i k))) (fun i => wholeN (H.getD i 0)) (ptE (foN r) (foB r))) := hsb
            have HD12 : Rw 4 cellsN w12 (.slice q12 m cq12) (linJ m (upXJ kdN m (appJ kdN m (fun i k => wholeN (ofL m Fm i k)) (fun i => wholeN (X.getD i 0))) (predJ kdN m (fun i k => wholeN (ofL m Fm i k)) (squareJ kdN m (fun i k => wholeN (ofL m Ro i k))) (fun i k => wholeN (ofL m Gm i k))) (fun i => wholeN (H.getD i 0)) (ptE (foN r) (foB r)) (ptE (foN z) (foB z)))) ∧ Mx 4 cellsN w12 m m p12 N c12 (upPJ kdN (fun i j => wholeN (unitI i j)) m (predJ kdN m (fun i k => wholeN (ofL m Fm i k)) (squareJ kdN m (fun i k => wholeN (ofL m Ro i k))) (fun i k => wholeN (ofL m Gm i k))) (fun i => wholeN (H.getD i 0)) (ptE (foN r) (foB r))) := hdat
            have HR12 := hideP HD12.1
            have HM12 := hideP HD12.2
            have b1112 : Bl W11 w12 := hu
            have b512 : Bl w5 w12 := b511.trans hu
            have b612 : Bl w6 w12 := b611.trans hu
            have B12 : Bl w w12 := B11.trans hu
            clear hsa hsb hdat HD12
            have HE3 := HE9.out.e3
            have HE4 := HE9.out.e4
            have HE5 := HE9.out.e5
            have HE6 := HE9.out.e6
            rw [← HRr.out] at HE3 HE4 HE6
            rw [← HZz.out] at HE3 HE5
            obtain ⟨eN, heN⟩ : ∃ y, y = surpJ kdN m (appJ kdN m (fun i k => wholeN (ofL m Fm i k)) (fun i => wholeN (X.getD i 0))) (fun i => wholeN (H.getD i 0)) (ptE (foN z) (foB z)) := ⟨_, rfl⟩
            obtain ⟨aN, haN⟩ : ∃ y, y = spreadJ kdN m (predJ kdN m (fun i k => wholeN (ofL m Fm i k)) (squareJ kdN m (fun i k => wholeN (ofL m Ro i k))) (fun i k => wholeN (ofL m Gm i k))) (fun i => wholeN (H.getD i 0)) (ptE (foN r) (foB r)) := ⟨_, rfl⟩
            rw [← heN] at n12 HE5
            rw [← haN] at n12 HE6
            rw [← HeF.out] at HE5
            rw [← HaF.out] at HE6
            clear heN haN
            have HE3' := hideP HE3
            have HE4' := hideP HE4
            have HE5' := hideP HE5
            have HE6' := hideP HE6
            clear HE3 HE4 HE5 HE6
            have BX : Bl w12 w12 := (Bl.refl _)
            obtain ⟨s0, s1, s2, s3, _, _, _, _, _⟩ := k11.later (b1112.trans BX)
            obtain ⟨t0, t1, t2, t3, _, _, _, _, _⟩ := k5.later (b512.trans BX)
            have WI := hideP (within9_any m q11 q5 cq11 cq5 (linJ m (appJ kdN m (fun i k => wholeN (ofL m Fm i k)) (fun i => wholeN (X.getD i 0)))) (linJ m (appJ kdF m (fun i k => wholeF (ofL m Fm i k)) (fun i => wholeF (X.getD i 0)))) w12 (HR11.out.later (b1112.trans BX)).q (HR5.out.later (b512.trans BX)).q (linJ_len _ _) (linJ_len _ _) (by omega) (within_lin9 HE9.out.e1))
            go_wp2_with fail
            refine WI.out.mono ?_
            rintro e v0 ⟨rfl, hv0⟩
            clear s0 s1 s2 s3 t0 t1 t2 t3 WI BX
            have BX : Bl w12 v0 := hv0
            obtain ⟨s0, s1, s2, s3, _, _, _, _, _⟩ := k11.later (b1112.trans BX)
            obtain ⟨t0, t1, t2, t3, _, _, _, _, _⟩ := k5.later (b512.trans BX)
            have WI := hideP (within9_any N p11 p5 c11 c5' (mk m m (predJ kdN m (fun i k => wholeN (ofL m Fm i k)) (squareJ kdN m (fun i k => wholeN (ofL m Ro i k))) (fun i k => wholeN (ofL m Gm i k)))) (mk m m (predJ kdF m (fun i k => wholeF (ofL m Fm i k)) (squareJ kdF m (fun i k => wholeF (ofL m Ro i k))) (fun i k => wholeF (ofL m Gm i k)))) v0 (HM11.out.later (b1112.trans BX)).2.2 (HM5.out.later (b512.trans BX)).2.2 (by rw [mk_len]; exact HNN.out.symm) (by rw [mk_len]; exact HNN.out.symm) (by omega) (within_mk9 HE9.out.e2))
            go_wp2_with fail
            refine WI.out.mono ?_
            rintro e v1 ⟨rfl, hv1⟩
            clear s0 s1 s2 s3 t0 t1 t2 t3 WI BX
            have BX : Bl w12 v1 := (hv0).trans hv1
            obtain ⟨s0, s1, s2, s3, _, _, _, _, _⟩ := k12.later BX
            obtain ⟨t0, t1, t2, t3, _, _, _, _, _⟩ := k6.later (b612.trans BX)
            have WI := hideP (within9_any m q12 q6 cq12 cq6 (linJ m (upXJ kdN m (appJ kdN m (fun i k => wholeN (ofL m Fm i k)) (fun i => wholeN (X.getD i 0))) (predJ kdN m (fun i k => wholeN (ofL m Fm i k)) (squareJ kdN m (fun i k => wholeN (ofL m Ro i k))) (fun i k => wholeN (ofL m Gm i k))) (fun i => wholeN (H.getD i 0)) (ptE (foN r) (foB r)) (ptE (foN z) (foB z)))) (linJ m (upXJ kdF m (appJ kdF m (fun i k => wholeF (ofL m Fm i k)) (fun i => wholeF (X.getD i 0))) (predJ kdF m (fun i k => wholeF (ofL m Fm i k)) (squareJ kdF m (fun i k => wholeF (ofL m Ro i k))) (fun i k => wholeF (ofL m Gm i k))) (fun i => wholeF (H.getD i 0)) Rr Zz)) v1 (HR12.out.later BX).q (HR6.out.later (b612.trans BX)).q (linJ_len _ _) (linJ_len _ _) (by omega) (within_lin9 HE3'.out))
            go_wp2_with fail
            refine WI.out.mono ?_
            rintro e v2 ⟨rfl, hv2⟩
            clear s0 s1 s2 s3 t0 t1 t2 t3 WI BX
            have BX : Bl w12 v2 := ((hv0).trans hv1).trans hv2
            obtain ⟨s0, s1, s2, s3, _, _, _, _, _⟩ := k12.later BX
            obtain ⟨t0, t1, t2, t3, _, _, _, _, _⟩ := k6.later (b612.trans BX)
            have WI := hideP (within9_any N p12 p6 c12 c6' (mk m m (upPJ kdN (fun i j => wholeN (unitI i j)) m (predJ kdN m (fun i k => wholeN (ofL m Fm i k)) (squareJ kdN m (fun i k => wholeN (ofL m Ro i k))) (fun i k => wholeN (ofL m Gm i k))) (fun i => wholeN (H.getD i 0)) (ptE (foN r) (foB r)))) (mk m m (upPJ kdF (fun i j => wholeF (unitI i j)) m (predJ kdF m (fun i k => wholeF (ofL m Fm i k)) (squareJ kdF m (fun i k => wholeF (ofL m Ro i k))) (fun i k => wholeF (ofL m Gm i k))) (fun i => wholeF (H.getD i 0)) Rr)) v2 (HM12.out.later BX).2.2 (HM6.out.later (b612.trans BX)).2.2 (by rw [mk_len]; exact HNN.out.symm) (by rw [mk_len]; exact HNN.out.symm) (by omega) (within_mk9 HE4'.out))
            go_wp2_with fail
            refine WI.out.mono ?_
            rintro e v3 ⟨rfl, hv3⟩
            clear s0 s1 s2 s3 t0 t1 t2 t3 WI BX
            have BX : Bl w12 v3 := (((hv0).trans hv1).trans hv2).trans hv3
            obtain ⟨s0, s1, s2, s3, s4, s5, s6, s7, _, _, _, _, _, _, _, _, _⟩ := n12.later BX
            obtain ⟨W13, hW13⟩ : ∃ W13, W13 = v3.alloc (.cells #[.int .i64 eN.v, .int .i64 eN.l, .int .i64 eN.h, .bool eN.bad, .int .i64 aN.v, .int .i64 aN.l, .int .i64 aN.h, .bool aN.bad] 28) := ⟨_, rfl⟩
            have b13 : Bl v3 W13 := by rw [hW13]; exact (Bl.refl _).alloc _
            have q13 : Rq 4 cellsN W13 (.slice (some ⟨v3.heap.size, 0, none⟩) 2 2) [eN, aN] := by rw [hW13]; exact rq_two9N v3 eN aN _
            have hs13 : W13.heap.size = v3.heap.size + 1 := by rw [hW13]; simp
            obtain ⟨W14, hW14⟩ : ∃ W14, W14 = W13.alloc (.cells #[.int .i64 eF.n, .int .i64 eF.d, .bool eF.bad, .int .i64 aF.n, .int .i64 aF.d, .bool aF.bad] 64) := ⟨_, rfl⟩
            have b14 : Bl W13 W14 := by rw [hW14]; exact (Bl.refl _).alloc _
            have q14 : Rq 3 cellsF W14 (.slice (some ⟨v3.heap.size + 1, 0, none⟩) 2 2) [eF, aF] := by rw [hW14, ← hs13]; exact rq_two9F W13 eF aF _
            have HQ13 := hideP (q13.later b14)
            have HQ14 := hideP q14
            obtain ⟨t0, t1, t2, t3, t4, t5, _, _, _, _, _, _, _⟩ := n6.later ((b612.trans BX).trans b13)
            rw [hW13] at t0 t1 t2 t3 t4 t5 hW14
            have b34' := BX.trans (b13.trans b14)
            have HW14 := hideP hW14
            clear hW13 hW14 q13 q14 hs13 b13 b14
            go_wp2_with fail
            rw [← HW14.out]
            refine (within9_any 2 _ _ 2 2 [eN, aN] [eF, aF] W14 HQ13.out HQ14.out rfl rfl (by omega) (within_two9 HE5'.out HE6'.out)).mono ?_
            rintro e v4 ⟨rfl, hv4⟩
            clear s0 s1 s2 s3 s4 s5 s6 s7 t0 t1 t2 t3 t4 t5
            go_wp2_with fail
            refine (AW.out _).mono ?_
            rintro e w99 ⟨rfl, h99⟩
            go_wp2
            go_ret
            exact ⟨rfl, ((B12.trans b34').trans hv4).trans h99⟩
end Go.Proofs.YthnadgbloamlaaaGreat

/- A slice of whole numbers as an argument: opened. -/
namespace Go.Proofs.YthnadgbloamlaaaGreat
open Go.ChangeShapes Go.WideShapes Go.ChangeAt Go.RowKit
set_option linter.unusedVariables false

theorem Tryz.cellsInt : Tryz.prog.cellsOf 3 = 1 := by kernel_rfl
theorem cell_block_lt {W : World} {b o : Nat} {v : Value} (h : W.cell? ⟨b, o, none⟩ = some v) : b < W.heap.size := by
  rcases Nat.lt_or_ge b W.heap.size with h' | h'
  · exact h'
  · have : W.heap[b]? = none := Array.getElem?_eq_none h'
    simp [World.cell?, this] at h
end Go.Proofs.YthnadgbloamlaaaGreat

/- A case of layer 9's laws as an argument: opened. -/
namespace Go.Proofs.YthnadgbloamlaaaGreat
open Go.ChangeShapes Go.WideShapes Go.ChangeAt Go.RowKit Go.Joins
set_option linter.unusedVariables false

/-- A case as a value. -/
abbrev caseV (n : Int) (x root f g h : Value) (r z : Int) : Value := .agg #[.int .i64 n, x, root, f, g, h, .int .i64 r, .int .i64 z]
theorem array8 {α : Type} {cs : Array α} (h : cs.size = 8) : ∃ c0 c1 c2 c3 c4 c5 c6 c7, cs = #[c0, c1, c2, c3, c4, c5, c6, c7] := by
  obtain ⟨l⟩ := cs
  match l, h with
  | [c0, c1, c2, c3, c4, c5, c6, c7], _ => exact ⟨c0, c1, c2, c3, c4, c5, c6, c7, rfl⟩
theorem cellsCase : Tryz.prog.cellsOf 56 = 8 := by kernel_rfl
set_option maxRecDepth 1000000 in
theorem row_trod {H : Type} {enc : TypeId × Value → H} {W : World} {n : Nat} {v : Value} {y : DataW H × List MemPlace}
    (hf : DataW.trod enc Tryz.prog W 0 (fun _ => true) true n 54 [v] = some y) : ∃ ns : List Int, Rq 1 cI W v ns ∧ ∀ n ∈ ns, (Lit.int .i64 n).wf = true := by
  obtain ⟨d, p⟩ := y
  rcases open_ints Tryz.underlying54 Tryz.underlying3 Tryz.cellsInt hf with ⟨hcs, hx⟩ | ⟨a, len', cap', zs, hcs, _, hl, hm, hz, hx, hcell, hwz⟩
  · simp at hcs
    subst hcs
    exact ⟨[], .inl ⟨none, 0, rfl, rfl, fun _ => rfl⟩, fun n hn => by simp at hn⟩
  · simp at hcs
    subst hcs
    simp only [if_true] at hz
    refine ⟨zs.take len', ?_, fun n hn => hwz n (List.mem_of_mem_take hn)⟩
    by_cases h0 : len' = 0
    · subst h0
      exact .inl ⟨some a, cap', rfl, by simp, nofun⟩
    · have c0 := hcell 0 (by omega)
      obtain ⟨b, off, rfl, hc⟩ := ints_at hcell (by omega)
      have hb : b < W.heap.size := by
        have := hc 0 (by omega)
        exact cell_block_lt this
      have hll : (zs.take len').length = len' := by simp; omega
      refine .inr ⟨b, off, cap', by rw [hll], by omega, hb, fun j x hj k u hu => ?_⟩
      rcases k with _ | k
      · simp at hu
        subst hu
        have hj2 := (List.getElem?_eq_some_iff.1 hj).1
        have := hc j (by omega)
        rw [List.getElem?_take] at hj
        split at hj
        · have e : zs.getD j 0 = x := by simp [List.getD, hj]
          rw [e] at this
          simpa using this
        · cases hj
      · simp at hu
set_option maxRecDepth 1000000 in
theorem open_case {H : Type} {enc : TypeId × Value → H} {W : World} {b0 : Nat} {v : Value} {d : DataW H} {p : List MemPlace}
    (hv : Value.okWide Tryz.prog W .any b0 56 v) (h : DataW.Trod enc Tryz.prog W 0 (fun _ => true) true 56 v d p) :
    ∃ (n r z : Int) (x root f g h' : Value) (X Root F G H' : List Int), v = caseV n x root f g h' r z ∧ Rq 1 cI W x X ∧ Rq 1 cI W root Root ∧ Rq 1 cI W f F ∧ Rq 1 cI W g G ∧ Rq 1 cI W h' H' := by
  obtain ⟨cs, rfl, hsz⟩ := okWide_struct Tryz.underlying56 hv
  obtain ⟨c0, c1, c2, c3, c4, c5, c6, c7, rfl⟩ := array8 (hsz.trans cellsCase)
  obtain ⟨fuel, hf⟩ := h
  obtain ⟨xs, n, _, hxx, hl, hlen, hall⟩ := DataW.trod_struct Tryz.underlying56 hf
  match xs, hlen with
  | [y0, y1, y2, y3, y4, y5, y6, y7], _ =>
    have h0 := hall 0 _ rfl
    have h1 := hall 1 _ rfl
    have h2 := hall 2 _ rfl
    have h3 := hall 3 _ rfl
    have h4 := hall 4 _ rfl
    have h5 := hall 5 _ rfl
    have h6 := hall 6 _ rfl
    have h7 := hall 7 _ rfl
    simp only [Value.cells] at h0 h1 h2 h3 h4 h5 h6 h7
    simp at h0 h1 h2 h3 h4 h5 h6 h7
    have k1 : Tryz.prog.cellsOf 3 = 1 := by kernel_rfl
    have k2 : Tryz.prog.cellsOf 54 = 1 := by kernel_rfl
    rw [k1] at h0 h6 h7
    rw [k2] at h1 h2 h3 h4 h5
    simp only [List.take_succ_cons, List.take_zero] at h0 h1 h2 h3 h4 h5 h6 h7
    obtain ⟨n0, e0, _, _⟩ := DataW.trod_int Tryz.underlying3 h0
    obtain ⟨r0, e6, _, _⟩ := DataW.trod_int Tryz.underlying3 h6
    obtain ⟨z0, e7, _, _⟩ := DataW.trod_int Tryz.underlying3 h7
    obtain ⟨X, hX, _⟩ := row_trod h1
    obtain ⟨Root, hRoot, _⟩ := row_trod h2
    obtain ⟨F, hF, _⟩ := row_trod h3
    obtain ⟨G, hG, _⟩ := row_trod h4
    obtain ⟨H', hH, _⟩ := row_trod h5
    simp only [List.cons.injEq, and_true] at e0 e6 e7
    subst e0 e6 e7
    exact ⟨n0, r0, z0, c1, c2, c3, c4, c5, X, Root, F, G, H', rfl, hX, hRoot, hF, hG, hH⟩
end Go.Proofs.YthnadgbloamlaaaGreat

/- Enclosed numbers enclose, step by step, what the same steps of the lane of whole covariances tell in fractions: X, P, and the news. Conditions: none (every input). -/
namespace Go.Proofs.YthnadgbloamlaaaGreat
open Go.ChangeShapes Go.WideShapes Go.ChangeAt Go.RowKit
set_option linter.unusedVariables false

theorem own_JosephEncloses : ownKnob Tryz.prog.godebug = none := by kernel_rfl
theorem laid_JosephEncloses : laidOutB Tryz.prog = true := by kernel_rfl
set_option maxRecDepth 100000 in
theorem lifted_JosephEncloses (os : Os) (started : os.Started) (H : Type) (enc : TypeId × Value → H) :
    ReturnsInHanded {} Tryz.checked os 6 .any (Rows.josephEnclosesSpec.pre6 enc Tryz.prog Tryz.f6 Rows.josephEnclosesRow.domain false) (Rows.josephEnclosesSpec.post enc Tryz.prog Tryz.f6 false true false false) := by
  refine returnsInHanded_of_change (C := Tryz.checked) own_JosephEncloses started (by kernel_rfl) Tryz.func6
    (ChangeSpec.witness6 (enc := enc) (C := Tryz.checked) false ⟨#[], #[.agg #[.int .i64 0, .slice none 0 0, .slice none 0 0, .slice none 0 0, .slice none 0 0, .slice none 0 0, .int .i64 0, .int .i64 0]], []⟩ 8 (by kernel_rfl) (by kernel_rfl) (by kernel_rfl) (by kernel_rfl)) ?_
  intro W base args ds gs before hval0 hW hcnd _
  have hval : ∀ (j : Nat) t v, Tryz.f6.params[j]? = some t → args[j]? = some v → Value.okWide Tryz.prog W .any base t v := hval0
  have hW' := hW
  obtain ⟨p, q, hA0, hV, rfl, hfz, hnd⟩ := hW
  have hA : DataW.TrodAll enc Tryz.prog W 0 (fun _ => true) true Tryz.f6.params.toList args.toList ds p := hA0
  rw [Tryz.params6] at hA hval
  obtain ⟨v0, vs0, d0, ds0, p0, q0, hargs, rfl, rfl, h0, r0⟩ := trodAll_cons hA
  obtain ⟨rfl, rfl, rfl⟩ := trodAll_nil r0
  obtain rfl : args = #[v0] := by cases args; simp_all
  obtain ⟨rfl, rfl⟩ := trodVars_none hV
  have hltA := fun x hx => hW'.lt x hx
  obtain ⟨n0, r0x, z0, x0, o0, f0, g0, k0, X0, O0, F0, G0, K0, e0, R0a, R0b, R0c, R0d, R0e⟩ := open_case (hval 0 56 v0 rfl rfl) h0
  subst e0
  clear hA0 hval0
  refine (walk_JosephEncloses n0 r0x z0 x0 o0 f0 g0 k0 X0 O0 F0 G0 K0 W R0a R0b R0c R0d R0e).mono fun e W' ⟨he, bel⟩ => ?_
  subst he
  exact ⟨_, rfl, _, _, _, [], _, [], hW', trodAll_mk1 (shut_bool Tryz.underlying4 _), (trodAll_cons_mk (Below.trod laid_JosephEncloses (by kernel_rfl) (of_decide_eq_true (by kernel_rfl)) h0 bel (fun x hx => by have := hltA x (by simp [hx]); simpa using this)) trodAll_mk0), rfl, Below.frame bel _, fun h => by cases h⟩

theorem proved_JosephEncloses : Rows.JosephEnclosesSaid :=
  OpenClaim.holds_of_wide 6 Tryz.f6 rfl rfl rfl rfl rfl rfl rfl ⟨rfl, rfl, rfl, rfl, rfl⟩ rfl rfl rfl rfl rfl (by kernel_rfl) Tryz.func6 (by kernel_rfl)
    (of_decide_eq_true (by kernel_rfl)) (by unfold Func.isWrapper; first | (rw [if_pos (by decide +kernel)]; kernel_rfl) | (rw [if_neg (by decide +kernel)]; exact ⟨rfl, rfl⟩))
    (fun os started H enc _ => lifted_JosephEncloses os started H enc)
#print axioms proved_JosephEncloses
end Go.Proofs.YthnadgbloamlaaaGreat
