/- Contracts of env.beside, Encloses (layer 3), and of the document's Encloses. -/
import Derived.Test.YtljmggemdkfbiaaGreatEn4
import Derived.Test.YtljmggemdkfbiaaGreatRefC
namespace Go.Proofs.YtljmggemdkfbiaaGreat
open Go.RowKit
set_option linter.unusedSimpArgs false
set_option linter.unusedVariables false

theorem tdiv_floor (n d : Int) (hd : 0 < d) : (n.tmod d < 0 ∧ n.tdiv d - 1 = n / d ∧ n.tmod d + d = n % d) ∨ (0 ≤ n.tmod d ∧ n.tdiv d = n / d ∧ n.tmod d = n % d) := by
  have e := Int.mul_tdiv_add_tmod n d
  have l1 := Int.tmod_lt_of_pos n hd
  have l2 : -d < n.tmod d := by
    have := Int.lt_tmod_of_pos n hd
    omega
  rcases Int.lt_or_le (n.tmod d) 0 with h | h
  · left
    have u := (Int.ediv_emod_unique hd (a := n) (q := n.tdiv d - 1) (r := n.tmod d + d)).2 ⟨by rw [Int.mul_sub, Int.mul_one]; omega, by omega, by omega⟩
    exact ⟨h, u.1.symm, u.2.symm⟩
  · right
    have u := (Int.ediv_emod_unique hd (a := n) (q := n.tdiv d) (r := n.tmod d)).2 ⟨by omega, h, l1⟩
    exact ⟨h, u.1.symm, u.2.symm⟩
/-- The number of units that is not above n by d, and the one that is not below it; whether both are told. -/
def bsB (n d : Int) : Bool := foB (n / d)
def bsL (n d : Int) : Int := toN (n * 16777216 / d) (bsB n d)
def bsH (n d : Int) : Int := toN (-(-(n * 16777216) / d)) (bsB n d)
theorem up_floor (x d : Int) (hd : 0 < d) : -(-x / d) = if 0 < x % d then x / d + 1 else x / d := by
  have a1 := Int.mul_ediv_add_emod x d
  have a2 := Int.emod_nonneg x (show d ≠ 0 by omega)
  have a3 := Int.emod_lt_of_pos x hd
  generalize x / d = q at *
  generalize x % d = r at *
  by_cases h : 0 < r
  · rw [if_pos h]
    have hn := (Int.ediv_emod_unique hd (a := -x) (q := -q - 1) (r := d - r)).2 ⟨by rw [Int.mul_sub, Int.mul_neg, Int.mul_one]; omega, by omega, by omega⟩
    rw [hn.1]; omega
  · rw [if_neg h]
    have hn := (Int.ediv_emod_unique hd (a := -x) (q := -q) (r := 0)).2 ⟨by rw [Int.mul_neg]; omega, by omega, hd⟩
    rw [hn.1]; omega
theorem units_floor (n d : Int) (hd : 0 < d) : n * 16777216 / d = n / d * 16777216 + n % d * 16777216 / d ∧ n * 16777216 % d = n % d * 16777216 % d := by
  have e : n * 16777216 = n % d * 16777216 + n / d * 16777216 * d := by
    have := Int.mul_ediv_add_emod n d
    rw [Int.mul_right_comm, Int.mul_comm (n / d) d, ← Int.add_mul]
    congr 1
    omega
  rw [e]
  constructor
  · rw [Int.add_mul_ediv_right _ _ (by omega), Int.add_comm]
  · rw [Int.add_mul_emod_self_right]

set_option maxHeartbeats 1000000 in
theorem beside_any (n d : Int) (w : World) (hd : 0 < d) (hn : rightB n = true) (hr : rightB d = true) :
    Calls Tryz.prog 83 #[.int .i64 n, .int .i64 d] w fun e w' => e = .returned (.tuple #[.int .i64 (bsL n d), .int .i64 (bsH n d), .bool (bsB n d)]) ∧ Bl w w' := by
  have kn := rightB_iff.1 hn
  have kd := rightB_iff.1 hr
  have uf := units_floor n d hd
  have ue := up_floor (n * 16777216) d hd
  have r0 := Int.emod_nonneg n (show d ≠ 0 by omega)
  have r1 := Int.emod_lt_of_pos n hd
  have tf := tdiv_floor n d hd
  have q0 : -4611686018427387904 ≤ n / d ∧ n / d ≤ 4611686018427387903 := by
    have := Int.mul_ediv_add_emod n d
    constructor
    · rcases Int.lt_or_le (n / d) (-4611686018427387904) with h | h
      · have := Int.mul_le_mul_of_nonneg_left (show n / d ≤ -4611686018427387905 by omega) (show 0 ≤ d by omega)
        omega
      · exact h
    · exact Int.le_trans (Int.ediv_le_ediv hd kn.2) (Int.ediv_le_self _ (by omega))
  unfold bsL bsH
  rw [ue, uf.1, uf.2]
  have F := fof_any (n / d)
  unfold foN at F
  have e1 : bsB n d = foB (n / d) := rfl
  rw [e1]
  clear ue uf e1 hn hr
  generalize n / d = q at *
  generalize n % d = r at *
  have hr2 : r * 16777216 / 18446744073709551616 < d := by omega
  have M := hideP (mul64_any r 16777216 ⟨r0, by omega⟩ ⟨by decide, by decide⟩)
  have D := hideP (fun w => div64_any (r * 16777216) d w (by omega) ⟨by omega, by omega⟩ hr2)
  have p0 : 0 ≤ r * 16777216 / d ∧ r * 16777216 / d < 16777216 := by
    refine ⟨Int.ediv_nonneg (by omega) (by omega), Int.ediv_lt_of_lt_mul hd ?_⟩
    rw [Int.mul_comm]
    exact Int.mul_lt_mul_of_pos_left r1 (by decide)
  have p1 := Int.emod_nonneg (r * 16777216) (show d ≠ 0 by omega)
  have hF0 : foB q = true → -67108864 ≤ q ∧ q ≤ 67108864 := fun h => by simpa [foB] using h
  have HF := hideP F
  clear F hr2
  generalize r * 16777216 / d = P at *
  generalize r * 16777216 % d = R at *
  cases hq : foB q
  · rw [hq] at HF
    simp only [toN_f] at HF ⊢
    clear hF0 hq
    go_enter Tryz.func83, Tryz.ntmps83
    go_wp2_with fail
    go_quiet (fail)
    generalize n.tdiv d = T at *
    generalize n.tmod d = U at *
    have hw : Bl w (w.drewN nq) := SmallBl _ _ _
    have HW := hideP hw
    clear hw
    have tf' : (r - d < 0 ∧ q + 1 = T ∧ r - d = U) ∨ (0 ≤ r ∧ q = T ∧ r = U) := by
      rcases tf with ⟨t1, t2, t3⟩ | ⟨t1, t2, t3⟩
      · left; omega
      · right; omega
    clear tf
    rcases tf' with ⟨t1, rfl, rfl⟩ | ⟨t1, rfl, rfl⟩
    all_goals
      go_wp2_with fail
      refine (HF.out _).mono ?_
      rintro e w1 ⟨rfl, h1⟩
      go_wp2
      go_ret3
      exact ⟨rfl, HW.out.trans h1⟩
  rw [hq] at HF
  obtain ⟨q1, q2⟩ := hF0 hq
  simp only [toN_t] at HF ⊢
  clear hF0 hq
  by_cases hR : 0 < R
  · rw [if_pos hR]
    go_enter Tryz.func83, Tryz.ntmps83
    go_wp2_with fail
    go_quiet (fail)
    generalize n.tdiv d = T at *
    generalize n.tmod d = U at *
    have hw : Bl w (w.drewN nq) := SmallBl _ _ _
    have HW := hideP hw
    clear hw
    have tf' : (r - d < 0 ∧ q + 1 = T ∧ r - d = U) ∨ (0 ≤ r ∧ q = T ∧ r = U) := by
      rcases tf with ⟨t1, t2, t3⟩ | ⟨t1, t2, t3⟩
      · left; omega
      · right; omega
    clear tf
    rcases tf' with ⟨t1, rfl, rfl⟩ | ⟨t1, rfl, rfl⟩
    all_goals
      go_wp2_with fail
      refine (HF.out _).mono ?_
      rintro e w1 ⟨rfl, h1⟩
      go_wp2_with fail
      refine (M.out _).mono ?_
      rintro e w2 ⟨rfl, rfl⟩
      go_wp2_with fail
      refine (D.out _).mono ?_
      rintro e w3 ⟨rfl, h3⟩
      go_wp2
      go_ret3
      exact ⟨rfl, (HW.out.trans h1).trans h3⟩
  · rw [if_neg hR]
    go_enter Tryz.func83, Tryz.ntmps83
    go_wp2_with fail
    go_quiet (fail)
    generalize n.tdiv d = T at *
    generalize n.tmod d = U at *
    have hw : Bl w (w.drewN nq) := SmallBl _ _ _
    have HW := hideP hw
    clear hw
    have tf' : (r - d < 0 ∧ q + 1 = T ∧ r - d = U) ∨ (0 ≤ r ∧ q = T ∧ r = U) := by
      rcases tf with ⟨t1, t2, t3⟩ | ⟨t1, t2, t3⟩
      · left; omega
      · right; omega
    clear tf
    rcases tf' with ⟨t1, rfl, rfl⟩ | ⟨t1, rfl, rfl⟩
    all_goals
      go_wp2_with fail
      refine (HF.out _).mono ?_
      rintro e w1 ⟨rfl, h1⟩
      go_wp2_with fail
      refine (M.out _).mono ?_
      rintro e w2 ⟨rfl, rfl⟩
      go_wp2_with fail
      refine (D.out _).mono ?_
      rintro e w3 ⟨rfl, h3⟩
      go_wp2
      go_ret3
      exact ⟨rfl, (HW.out.trans h1).trans h3⟩

/-- Is n by d enclosed (P3.2)? -/
def withinB (a : En) (n d : Int) : Bool := decide (a.l * d ≤ n * 16777216) && decide (n * 16777216 ≤ a.h * d)
def enclB (a : En) (n d : Int) : Bool := fineB a && decide (1 ≤ d) && rightB n && rightB d && withinB a n d
theorem bs_within (a : En) (n d : Int) (ha : fineB a = true) (hd : 0 < d) : (bsB n d && (decide (a.l ≤ bsL n d) && decide (bsH n d ≤ a.h))) = withinB a n d := by
  obtain ⟨_, _, _, f1, f2⟩ := fineB_iff.1 ha
  have g1 := frB_iff.1 f1
  have g2 := frB_iff.1 f2
  unfold bsL bsH withinB
  cases hb : bsB n d
  · rw [Bool.false_and, eq_comm, Bool.and_eq_false_iff]
    have hq : n / d < -67108864 ∨ 67108864 < n / d := by
      unfold bsB foB at hb
      rw [Bool.and_eq_false_iff] at hb
      rcases hb with h | h
      · have := of_decide_eq_false h; omega
      · have := of_decide_eq_false h; omega
    have e := Int.mul_ediv_add_emod n d
    have r0 := Int.emod_nonneg n (show d ≠ 0 by omega)
    have r1 := Int.emod_lt_of_pos n hd
    rcases hq with h | h
    · left
      apply decide_eq_false
      intro hc
      have k1 := Int.mul_le_mul_of_nonneg_left (show n / d ≤ -67108865 by omega) (show 0 ≤ d by omega)
      have k2 := Int.mul_le_mul_of_nonneg_right g1.1 (show 0 ≤ d by omega)
      omega
    · right
      apply decide_eq_false
      intro hc
      have k1 := Int.mul_le_mul_of_nonneg_left (show 67108865 ≤ n / d by omega) (show 0 ≤ d by omega)
      have k2 := Int.mul_le_mul_of_nonneg_right g2.2 (show 0 ≤ d by omega)
      omega
  · rw [Bool.true_and, toN_t, toN_t]
    have i1 : a.l ≤ n * 16777216 / d ↔ a.l * d ≤ n * 16777216 := Int.le_ediv_iff_mul_le hd
    have i2 : -(-(n * 16777216) / d) ≤ a.h ↔ n * 16777216 ≤ a.h * d := by
      have : -a.h ≤ -(n * 16777216) / d ↔ -a.h * d ≤ -(n * 16777216) := Int.le_ediv_iff_mul_le hd
      rw [Int.neg_mul] at this
      constructor
      · intro h; have := this.1 (by omega); omega
      · intro h; have := this.2 (by omega); omega
    rw [decide_eq_decide.2 i1, decide_eq_decide.2 i2]

set_option maxHeartbeats 1000000 in
theorem encl_any (a : En) (n d : Int) (w : World) :
    Calls Tryz.prog 39 #[enV a, .int .i64 n, .int .i64 d] w fun e w' => e = .returned (.bool (enclB a n d)) ∧ Bl w w' := by
  obtain ⟨W, hW⟩ : ∃ W, W = w.alloc (.cells #[.int .i64 a.v, .int .i64 a.l, .int .i64 a.h, .bool a.bad] 52) := ⟨_, rfl⟩
  have b0 : Bl w W := by rw [hW]; exact (Bl.refl _).alloc _
  have x0 : Box W w.heap.size a := by rw [hW]; exact Box.new w a _
  have c1 := x0.c1
  have HW := hideP hW
  have HX := hideP x0
  clear hW x0
  have F := fine_any a
  unfold enclB
  cases hf : fineB a
  · rw [hf] at F
    have HF := hideP F
    clear F
    go_enter Tryz.func39, Tryz.ntmps39
    go_wp2_with fail
    rw [← HW.out]
    refine (HF.out _).mono ?_
    rintro e w1 ⟨rfl, h1⟩
    go_wp2
    go_ret
    exact ⟨rfl, b0.trans h1⟩
  rw [hf] at F
  have HF := hideP F
  clear F
  have ways : (d ≤ 0) ∨ (0 < d ∧ 4611686018427387903 < d) ∨ (0 < d ∧ d ≤ 4611686018427387903 ∧ 4611686018427387903 < n) ∨ (0 < d ∧ d ≤ 4611686018427387903 ∧ n ≤ 4611686018427387903 ∧ n < -4611686018427387903) ∨
      (0 < d ∧ d ≤ 4611686018427387903 ∧ n ≤ 4611686018427387903 ∧ -4611686018427387903 ≤ n) := by omega
  have no : ∀ x : Bool, (d ≤ 0 ∨ 4611686018427387903 < d ∨ 4611686018427387903 < n ∨ n < -4611686018427387903) → (true && decide (1 ≤ d) && rightB n && rightB d && x) = false := by
    intro x h
    rw [Bool.true_and]
    rcases h with h | h | h | h
    · rw [decide_eq_false (by omega)]; rfl
    · have : rightB d = false := by unfold rightB; rw [decide_eq_false (show ¬ d ≤ 4611686018427387903 by omega), Bool.and_false]
      rw [this, Bool.and_false, Bool.false_and]
    · have : rightB n = false := by unfold rightB; rw [decide_eq_false (show ¬ n ≤ 4611686018427387903 by omega), Bool.and_false]
      rw [this, Bool.and_false, Bool.false_and, Bool.false_and]
    · have : rightB n = false := by unfold rightB; rw [decide_eq_false (show ¬ -4611686018427387903 ≤ n by omega), Bool.false_and]
      rw [this, Bool.and_false, Bool.false_and, Bool.false_and]
  rcases ways with k | ⟨k, k2⟩ | ⟨k, k2, k3⟩ | ⟨k, k2, k3, k4⟩ | ⟨k, k2, k3, k4⟩
  · rw [no _ (.inl k)]
    clear no
    go_enter Tryz.func39, Tryz.ntmps39
    go_wp2_with fail
    rw [← HW.out]
    refine (HF.out _).mono ?_
    rintro e w1 ⟨rfl, h1⟩
    go_wp2
    go_ret
    exact ⟨rfl, b0.trans h1⟩
  · rw [no _ (.inr (.inl k2))]
    clear no
    go_enter Tryz.func39, Tryz.ntmps39
    go_wp2_with fail
    rw [← HW.out]
    refine (HF.out _).mono ?_
    rintro e w1 ⟨rfl, h1⟩
    go_wp2
    go_ret
    exact ⟨rfl, b0.trans h1⟩
  · rw [no _ (.inr (.inr (.inl k3)))]
    clear no
    go_enter Tryz.func39, Tryz.ntmps39
    go_wp2_with fail
    rw [← HW.out]
    refine (HF.out _).mono ?_
    rintro e w1 ⟨rfl, h1⟩
    go_wp2
    go_ret
    exact ⟨rfl, b0.trans h1⟩
  · rw [no _ (.inr (.inr (.inr k4)))]
    clear no
    go_enter Tryz.func39, Tryz.ntmps39
    go_wp2_with fail
    rw [← HW.out]
    refine (HF.out _).mono ?_
    rintro e w1 ⟨rfl, h1⟩
    go_wp2
    go_ret
    exact ⟨rfl, b0.trans h1⟩
  · clear no
    have rn : rightB n = true := rightB_eq (by omega)
    have rd : rightB d = true := rightB_eq (by omega)
    have S := fun w => beside_any n d w k rn rd
    have e := bs_within a n d hf k
    rw [rn, rd, decide_eq_true (show 1 ≤ d by omega), ← e]
    clear rn rd e hf
    generalize bsB n d = ok at *
    generalize bsL n d = x at *
    generalize bsH n d = y at *
    have HS := hideP S
    clear S
    cases ok
    · go_enter Tryz.func39, Tryz.ntmps39
      go_wp2_with fail
      rw [← HW.out]
      refine (HF.out _).mono ?_
      rintro e w1 ⟨rfl, h1⟩
      go_wp2_with fail
      refine (HS.out _).mono ?_
      rintro e w2 ⟨rfl, h2⟩
      go_wp2
      go_ret
      exact ⟨rfl, (b0.trans h1).trans h2⟩
    · by_cases kl : a.l ≤ x
      · rw [decide_eq_true kl]
        go_enter Tryz.func39, Tryz.ntmps39
        go_wp2_with fail
        rw [← HW.out]
        refine (HF.out _).mono ?_
        rintro e w1 ⟨rfl, h1⟩
        go_wp2_with fail
        refine (HS.out _).mono ?_
        rintro e w2 ⟨rfl, h2⟩
        have b1 := (HX.out.later (h1.trans h2)).c1
        have b2 := (HX.out.later (h1.trans h2)).c2
        go_wp2
        go_ret
        exact ⟨rfl, (b0.trans h1).trans h2⟩
      · rw [decide_eq_false kl]
        go_enter Tryz.func39, Tryz.ntmps39
        go_wp2_with fail
        rw [← HW.out]
        refine (HF.out _).mono ?_
        rintro e w1 ⟨rfl, h1⟩
        go_wp2_with fail
        refine (HS.out _).mono ?_
        rintro e w2 ⟨rfl, h2⟩
        have b1 := (HX.out.later (h1.trans h2)).c1
        have b2 := (HX.out.later (h1.trans h2)).c2
        go_wp2
        go_ret
        exact ⟨rfl, (b0.trans h1).trans h2⟩

theorem cmp_le (x y : Int) : decide (cmpI x y ≤ 0) = decide (x ≤ y) := by
  apply decide_eq_decide.2
  rcases cmpI_three x y with ⟨h, e⟩ | ⟨h, e⟩ | ⟨h, e⟩ <;> rw [e] <;> omega
theorem ref_within (a : En) (n d : Int) : (decide (cmpI (a.l * d) (n * 16777216) ≤ 0) && decide (cmpI (n * 16777216) (a.h * d) ≤ 0)) = withinB a n d := by
  rw [cmp_le, cmp_le]; rfl

end Go.Proofs.YtljmggemdkfbiaaGreat
