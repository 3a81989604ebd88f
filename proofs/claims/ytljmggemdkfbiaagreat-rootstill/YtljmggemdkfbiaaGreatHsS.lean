/- The root of an enclosed number encloses rational numbers whose squares lie as near as one likes (layer 8, HouseSquares). Mathematics alone. -/
import Derived.Test.YtljmggemdkfbiaaGreatHsR
namespace Go.Proofs.YtljmggemdkfbiaaGreat
open Go.RowKit
set_option linter.unusedSimpArgs false
set_option linter.unusedVariables false

theorem root_bd {a : En} (hb : (rootE a).bad = false) : fineB a = true ∧ fineB (rootE a) = true ∧ ∃ r t : Int, 0 ≤ r ∧ 0 ≤ t ∧ (rootE a).l ≤ r ∧ t ≤ (rootE a).h ∧ r * r ≤ a.l * 16777216 ∧ a.h * 16777216 ≤ t * t := by
  rcases fine_root a with hf | ⟨_, hf⟩
  · rw [hf] at hb; cases hb
  cases hk : okE bQ a a (prs2 a a)
  · rw [show rootE a = wrongE from told_bad hk] at hb; cases hb
  obtain ⟨h0, ha, _, ho⟩ := okE_iff.1 hk
  have et : rootE a = ⟨nQ a.v a.v 0, lowF nQ (prs2 a a), highF nQ (prs2 a a), false⟩ := told_ok hk
  have m1 : (a.l, a.l) ∈ prs2 a a := by simp [prs2]
  have m2 : (a.h, a.h) ∈ prs2 a a := by simp [prs2]
  have v1 := (ok_at ho m1).1
  have v2 := (ok_at ho m2).2
  have l1 := low_le (N := nQ) m1
  have l2 := le_high (N := nQ) m2
  simp only [bQ, nQ] at v1 v2 l1 l2
  have k1 := fqB_ok v1
  have k2 := fqB_ok v2
  obtain ⟨r, t, _, r0, _, t0, _, ea, ht, x1, _, _⟩ := fq_vals a.l k1.1 k1.2.1
  obtain ⟨r', t', _, r0', _, t0', _, ea', ht', _, x2, _⟩ := fq_vals a.h k2.1 k2.2.1
  rw [x1.1] at l1
  rw [x2.1] at l2
  obtain ⟨s, hs⟩ : ∃ s, s = upI r' (decide (0 < t')) := ⟨_, rfl⟩
  rw [← hs] at l2
  have hss : a.h * 16777216 ≤ s * s ∧ 0 ≤ s := by
    rw [hs, ea']
    unfold upI
    by_cases k : 0 < t'
    · simp only [decide_eq_true k, if_true]
      rw [Int.add_mul, Int.mul_add, Int.mul_one, Int.one_mul]
      exact ⟨by omega, by omega⟩
    · simp only [decide_eq_false k]
      exact ⟨by simp; omega, by simpa using r0'⟩
  refine ⟨ha, hf, r, s, r0, hss.2, ?_, ?_, by omega, hss.1⟩
  · rw [et]; exact l1
  · rw [et]; exact l2
theorem nat_root (N : Nat) : ∃ q : Nat, q * q ≤ N ∧ N < (q + 1) * (q + 1) := by
  induction N with
  | zero => exact ⟨0, by omega, by omega⟩
  | succ N ih =>
    obtain ⟨q, h1, h2⟩ := ih
    by_cases h : N + 1 < (q + 1) * (q + 1)
    · exact ⟨q, by omega, h⟩
    · refine ⟨q + 1, by omega, ?_⟩
      have : (q + 1 + 1) * (q + 1 + 1) = (q + 1) * (q + 1) + 2 * (q + 1) + 1 := by
        rw [Nat.add_mul (q + 1) 1, Nat.mul_add]; omega
      omega
theorem cancelQ {a b c : Rat} (hc : 0 < c) (h : a * c ≤ b * c) : a ≤ b := by
  refine Rat.not_lt.1 fun hh => ?_
  have := Rat.mul_lt_mul_of_pos_right hh hc
  grind
theorem sq_leQ {a b : Rat} (ha : 0 ≤ a) (hb : 0 ≤ b) (h : a * a ≤ b * b) : a ≤ b := by
  refine Rat.not_lt.1 fun hh => ?_
  have h1 := Rat.mul_lt_mul_of_pos_right hh (show 0 < a by grind)
  have h2 := Rat.mul_le_mul_of_nonneg_right (Rat.le_of_lt hh) hb
  grind
theorem near_root {x e : Rat} {r t : Int} (hr : 0 ≤ r) (ht : 0 ≤ t) (h1 : (r : Rat) * r ≤ x) (h2 : x ≤ (t : Rat) * t) (he : 0 < e) : ∃ z : Rat, (r : Rat) ≤ z ∧ z ≤ t ∧ z * z ≤ x ∧ x - z * z ≤ e := by
  have hrQ : (0 : Rat) ≤ r := Rat.intCast_nonneg.2 hr
  have htQ : (0 : Rat) ≤ t := Rat.intCast_nonneg.2 ht
  have hx : 0 ≤ x := Rat.le_trans (Rat.mul_nonneg hrQ hrQ) h1
  -- how fine
  obtain ⟨M, hM1, hM⟩ : ∃ M : Int, 1 ≤ M ∧ 2 * (t : Rat) + 1 ≤ e * (M : Rat) := by
    have hf := Rat.lt_floor_add_one ((2 * (t : Rat) + 1) / e)
    have h0 : 0 ≤ (2 * (t : Rat) + 1) / e := by
      rw [Rat.div_def]
      exact Rat.mul_nonneg (by grind) (Rat.le_of_lt (Rat.inv_pos.2 he))
    refine ⟨((2 * (t : Rat) + 1) / e).floor + 1, ?_, ?_⟩
    · have : (0 : Rat) < ((((2 * (t : Rat) + 1) / e).floor + 1 : Int) : Rat) := by grind
      have := Rat.intCast_pos.1 this
      omega
    · have := Rat.mul_le_mul_of_nonneg_right (Rat.le_of_lt hf) (Rat.le_of_lt he)
      have e1 : (2 * (t : Rat) + 1) / e * e = 2 * (t : Rat) + 1 := by grind
      grind
  obtain ⟨m, hm⟩ : ∃ m : Rat, m = (M : Rat) := ⟨_, rfl⟩
  have hm1 : 1 ≤ m := by rw [hm]; have := Rat.intCast_le_intCast.2 hM1; exact this
  have hm0 : 0 < m := by grind
  rw [← hm] at hM
  have hmm : 0 < m * m := Rat.mul_pos hm0 hm0
  have hxm : 0 ≤ x * (m * m) := Rat.mul_nonneg hx (Rat.le_of_lt hmm)
  -- its floor
  obtain ⟨q, g1, g2⟩ := nat_root (x * (m * m)).floor.toNat
  have hfl : 0 ≤ (x * (m * m)).floor := by
    have := Rat.lt_floor_add_one (x * (m * m))
    have h3 : (0 : Rat) < (((x * (m * m)).floor + 1 : Int) : Rat) := by grind
    have := Rat.intCast_pos.1 h3
    omega
  have g1' : ((q : Int) * (q : Int)) ≤ (x * (m * m)).floor := by
    have : ((q * q : Nat) : Int) ≤ (x * (m * m)).floor := by omega
    rwa [Int.natCast_mul] at this
  have g2' : (x * (m * m)).floor + 1 ≤ ((q : Int) + 1) * ((q : Int) + 1) := by
    have : (x * (m * m)).floor + 1 ≤ (((q + 1) * (q + 1) : Nat) : Int) := by omega
    rw [Int.natCast_mul] at this
    exact this
  obtain ⟨k, hk⟩ : ∃ k : Rat, k = ((q : Int) : Rat) := ⟨_, rfl⟩
  have k0 : 0 ≤ k := by rw [hk]; exact Rat.intCast_nonneg.2 (by omega)
  have a1 : k * k ≤ x * (m * m) := by
    have := Rat.intCast_le_intCast.2 g1'
    rw [Rat.intCast_mul, ← hk] at this
    exact Rat.le_trans this (Rat.floor_le _)
  have a2 : x * (m * m) < (k + 1) * (k + 1) := by
    have h3 := Rat.intCast_le_intCast.2 g2'
    rw [Rat.intCast_mul, Rat.intCast_add ((q : Int)), ← hk] at h3
    have h4 := Rat.lt_floor_add_one (x * (m * m))
    have h5 : ((1 : Int) : Rat) = 1 := rfl
    rw [h5] at h3
    grind
  obtain ⟨y, hy⟩ : ∃ y, y = k / m := ⟨_, rfl⟩
  have ym : y * m = k := by rw [hy]; grind
  have y0 : 0 ≤ y := by
    refine cancelQ hm0 ?_
    rw [ym]
    grind
  have yx : y * y ≤ x := by
    refine cancelQ hmm ?_
    have : y * y * (m * m) = k * k := by rw [← ym]; grind
    rw [this]
    exact a1
  have yt : y ≤ t := sq_leQ y0 htQ (Rat.le_trans yx h2)
  have near : x - y * y ≤ e := by
    refine cancelQ hmm ?_
    have e1 : (x - y * y) * (m * m) = x * (m * m) - k * k := by rw [← ym]; grind
    rw [e1]
    have e2 : k ≤ t * m := by rw [← ym]; exact Rat.mul_le_mul_of_nonneg_right yt (Rat.le_of_lt hm0)
    have e3 : (2 * (t : Rat) + 1) * m ≤ e * m * m := Rat.mul_le_mul_of_nonneg_right hM (Rat.le_of_lt hm0)
    grind
  by_cases hry : (r : Rat) ≤ y
  · exact ⟨y, hry, yt, yx, near⟩
  · have hyr : y ≤ r := by grind
    refine ⟨r, Rat.le_refl, sq_leQ hrQ htQ (Rat.le_trans h1 h2), h1, ?_⟩
    have h3 := Rat.mul_le_mul_of_nonneg_right hyr y0
    have h4 := Rat.mul_le_mul_of_nonneg_right hyr hrQ
    grind
/-- Of an enclosed number whose root is fine: one that the root encloses, whose square lies near. -/
theorem encQ_root {a : En} {x e : Rat} (ha : EncQ a x) (hb : (rootE a).bad = false) (he : 0 < e) : ∃ z : Rat, 0 ≤ z ∧ EncQ (rootE a) z ∧ z * z ≤ x ∧ x - z * z ≤ e := by
  obtain ⟨fa, fr, r, t, r0, t0, lr, th, hr, ht⟩ := root_bd hb
  rcases encQ_iff.1 ha with h | ⟨_, h1, h2⟩
  · rw [h] at fa; cases fa
  have c : ((16777216 : Int) : Rat) = 16777216 := rfl
  have hr' := Rat.intCast_le_intCast.2 hr
  have ht' := Rat.intCast_le_intCast.2 ht
  rw [Rat.intCast_mul, Rat.intCast_mul, c] at hr' ht'
  obtain ⟨z, z1, z2, z3, z4⟩ := near_root (x := x * 16777216 * 16777216) (e := e * 16777216 * 16777216) r0 t0 (by grind) (by grind) (by grind)
  have rQ : (0 : Rat) ≤ r := Rat.intCast_nonneg.2 r0
  have lQ := Rat.intCast_le_intCast.2 lr
  have tQ := Rat.intCast_le_intCast.2 th
  refine ⟨z / 16777216, ?_, encQ_iff.2 (.inr ⟨fr, ?_, ?_⟩), ?_, ?_⟩
  · grind
  · grind
  · grind
  · grind
  · grind
end Go.Proofs.YtljmggemdkfbiaaGreat
