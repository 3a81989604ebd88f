/- What a product, divided, and rounded, is, by the number itself (a divisor above 0). -/
import Derived.Test.YtljmggemdkfbiaaGreatLawC
import Derived.Test.YtljmggemdkfbiaaGreatLawE
namespace Go.Proofs.YtljmggemdkfbiaaGreat
open Go.RowKit
set_option linter.unusedSimpArgs false
set_option linter.unusedVariables false

/-- x by c, to the nearest; of two to the even one. -/
def evn (x c : Int) : Int := if 2 * (x % c) < c then x / c else if c < 2 * (x % c) then x / c + 1 else x / c + x / c % 2
/-- x by c, rounded so. -/
def rnd (x c m : Int) : Int := if m = 1 then x / c else if m = 2 then -(-x / c) else evn x c
theorem rnd_down (x c : Int) : rnd x c 1 = x / c := rfl
theorem rnd_up (x c : Int) : rnd x c 2 = -(-x / c) := rfl
theorem rnd_even (x c : Int) : rnd x c 0 = evn x c := rfl

theorem mode_cases {m : Int} (h : modeB m = true) : m = 0 ∨ m = 1 ∨ m = 2 := by
  simp [modeB] at h; omega
theorem mdG_mode {a b c m : Int} (h : mdG a b c m = true) : modeB m = true := by
  unfold mdG at h; simp only [Bool.and_eq_true] at h; exact h.2
theorem mdB_G {a b c m : Int} (h : mdB a b c m = true) : mdG a b c m = true := by
  unfold mdB at h; simp only [Bool.and_eq_true] at h; exact h.1

theorem mdC_round (a b c m : Int) (hc : 0 < c) (hm : m = 0 ∨ m = 1 ∨ m = 2) : (if belB a b c = true then -(mdC a b c m) else mdC a b c m) = rnd (a * b) c m := by
  unfold mdC
  have hsc : szI c = c := by unfold szI; rw [if_neg (by omega)]
  have hbel : belB a b c = decide (a * b < 0) := by
    unfold belB
    rcases (by omega : a * b < 0 ∨ a * b = 0 ∨ 0 < a * b) with h | h | h
    · have := Int.mul_neg_of_neg_of_pos h hc; rw [decide_eq_true this, decide_eq_true h]
    · rw [h]; simp
    · have := Int.mul_pos h hc; rw [decide_eq_false (by omega), decide_eq_false (by omega)]
  rw [szI_mul, hsc, hbel]
  generalize a * b = x
  have e1 := Int.mul_ediv_add_emod (szI x) c
  have e2 := Int.emod_nonneg (szI x) (show c ≠ 0 by omega)
  have e3 := Int.emod_lt_of_pos (szI x) hc
  generalize szI x / c = Q at *
  generalize szI x % c = R at *
  by_cases hx : x < 0
  · have hs : szI x = -x := by unfold szI; rw [if_pos hx]
    rw [decide_eq_true hx, if_pos rfl]
    by_cases hR : R = 0
    · subst hR
      have hxc := (Int.ediv_emod_unique hc (a := x) (q := -Q) (r := 0)).2 ⟨by rw [Int.mul_neg]; omega, by omega, hc⟩
      have hnc := (Int.ediv_emod_unique hc (a := -x) (q := Q) (r := 0)).2 ⟨by omega, by omega, hc⟩
      rw [outB_zero _ _ _ _ hc]
      rcases hm with rfl | rfl | rfl
      · rw [rnd_even]; unfold evn; rw [hxc.1, hxc.2, if_pos (by omega)]; rfl
      · rw [rnd_down, hxc.1]; rfl
      · rw [rnd_up, hnc.1]; rfl
    · have hxc := (Int.ediv_emod_unique hc (a := x) (q := -Q - 1) (r := c - R)).2 ⟨by rw [Int.mul_sub, Int.mul_neg, Int.mul_one]; omega, by omega, by omega⟩
      have hnc := (Int.ediv_emod_unique hc (a := -x) (q := Q) (r := R)).2 ⟨by omega, by omega, e3⟩
      rcases hm with rfl | rfl | rfl
      · rw [rnd_even]; unfold evn; rw [hxc.1, hxc.2]
        have ho : outB Q R c true 0 = (decide (c < 2 * R) || (decide (2 * R = c) && decide (Q % 2 = 1))) := by simp [outB]
        rw [ho]
        rcases (by omega : 2 * R < c ∨ 2 * R = c ∨ c < 2 * R) with k | k | k
        · rw [decide_eq_false (by omega), decide_eq_false (by omega), if_neg (by omega), if_pos (by omega)]; simp [upI]
        · rw [decide_eq_false (by omega), decide_eq_true k, if_neg (by omega), if_neg (by omega)]
          by_cases o : Q % 2 = 1
          · rw [decide_eq_true o]; simp [upI]; omega
          · rw [decide_eq_false o]; simp [upI]; omega
        · rw [decide_eq_true k, if_pos (by omega)]; simp [upI]; omega
      · rw [out_down, rnd_down, hxc.1, decide_eq_true (show 0 < R by omega)]; simp [upI]; omega
      · rw [out_up, rnd_up, hnc.1]; simp [upI]
  · have hs : szI x = x := by unfold szI; rw [if_neg hx]
    rw [decide_eq_false hx, if_neg (by simp)]
    have hxc := (Int.ediv_emod_unique hc (a := x) (q := Q) (r := R)).2 ⟨by omega, by omega, e3⟩
    by_cases hR : R = 0
    · subst hR
      have hnc := (Int.ediv_emod_unique hc (a := -x) (q := -Q) (r := 0)).2 ⟨by rw [Int.mul_neg]; omega, by omega, hc⟩
      rw [outB_zero _ _ _ _ hc]
      rcases hm with rfl | rfl | rfl
      · rw [rnd_even]; unfold evn; rw [hxc.1, hxc.2, if_pos (by omega)]; rfl
      · rw [rnd_down, hxc.1]; rfl
      · rw [rnd_up, hnc.1]; simp [upI]
    · have hnc := (Int.ediv_emod_unique hc (a := -x) (q := -Q - 1) (r := c - R)).2 ⟨by rw [Int.mul_sub, Int.mul_neg, Int.mul_one]; omega, by omega, by omega⟩
      rcases hm with rfl | rfl | rfl
      · rw [rnd_even]; unfold evn; rw [hxc.1, hxc.2]
        have ho : outB Q R c false 0 = (decide (c < 2 * R) || (decide (2 * R = c) && decide (Q % 2 = 1))) := by simp [outB]
        rw [ho]
        rcases (by omega : 2 * R < c ∨ 2 * R = c ∨ c < 2 * R) with k | k | k
        · rw [decide_eq_false (by omega), decide_eq_false (by omega), if_pos (by omega)]; simp [upI]
        · rw [decide_eq_false (by omega), decide_eq_true k, if_neg (by omega), if_neg (by omega)]
          by_cases o : Q % 2 = 1
          · rw [decide_eq_true o]; simp [upI]; omega
          · rw [decide_eq_false o]; simp [upI]; omega
        · rw [decide_eq_true k, if_neg (by omega), if_pos (by omega)]; simp [upI]
      · rw [out_down, rnd_down, hxc.1]; simp [upI]
      · rw [out_up, rnd_up, hnc.1, decide_eq_true (show 0 < R by omega)]; simp [upI]; omega

theorem md_round (a b c m : Int) (hc : 0 < c) (hb : mdB a b c m = true) : mdN a b c m = rnd (a * b) c m := by
  have hg := mdB_G hb
  have hm := mode_cases (mdG_mode hg)
  have hr : rdB (mdC a b c m) = true := by unfold mdB at hb; simp only [Bool.and_eq_true] at hb; exact hb.2
  unfold mdN
  rw [hg, if_pos rfl, rdN_of _ hr]
  exact mdC_round a b c m hc hm

/-- Rounded, the lesser one is not the greater one. -/
theorem rnd_mono (x y c m : Int) (hc : 0 < c) (h : x ≤ y) : rnd x c m ≤ rnd y c m := by
  have hd := Int.ediv_le_ediv hc h
  unfold rnd
  split
  · exact hd
  · split
    · have := Int.ediv_le_ediv hc (show -y ≤ -x by omega); omega
    · unfold evn
      have a1 := Int.mul_ediv_add_emod x c
      have a2 := Int.emod_nonneg x (show c ≠ 0 by omega)
      have a3 := Int.emod_lt_of_pos x hc
      have b1 := Int.mul_ediv_add_emod y c
      have b2 := Int.emod_nonneg y (show c ≠ 0 by omega)
      have b3 := Int.emod_lt_of_pos y hc
      rcases Int.lt_or_eq_of_le hd with k | k
      · split <;> split <;> (try split) <;> (try split) <;> omega
      · rw [k] at a1 ⊢
        split <;> split <;> (try split) <;> (try split) <;> omega
end Go.Proofs.YtljmggemdkfbiaaGreat
