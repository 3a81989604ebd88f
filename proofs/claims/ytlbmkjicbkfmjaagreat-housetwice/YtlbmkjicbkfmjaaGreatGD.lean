/- The contract of env.told (layer 3), for what is done of a pair, whatever it be. -/
import Derived.Test.YtlbmkjicbkfmjaaGreatGC
import Derived.Test.YtlbmkjicbkfmjaaGreatWlr
/- What a product, divided, and rounded, is, by the number itself (a divisor above 0). -/
namespace Go.Proofs.YtlbmkjicbkfmjaaGreat
open Go.RowKit
set_option linter.unusedSimpArgs false
set_option linter.unusedVariables false

/-- x by c, to the nearest; of two to the even one. -/
def evn (x c : Int) : Int := if 2 * (x % c) < c then x / c else if c < 2 * (x % c) then x / c + 1 else x / c + x / c % 2
/-- x by c, rounded so. -/
def rnd (x c m : Int) : Int := if m = 1 then x / c else if m = 2 then -(-x / c) else evn x c
theorem rnd_down (x c : Int) : rnd x c 1 = x / c := rfl
theorem rnd_up (x c : Int) : rnd x c 2 = -(-x / c) := rfl
theorem rnd_even (x c : Int) : rnd x c 0 = evn x c := rfl

theorem mode_cases {m : Int} (h : modeB m = true) : m = 0 ∨ m = 1 ∨ m = 2 := by
  simp [modeB] at h; omega
theorem mdG_mode {a b c m : Int} (h : mdG a b c m = true) : modeB m = true := by
  unfold mdG at h; simp only [Bool.and_eq_true] at h; exact h.2
theorem mdB_G {a b c m : Int} (h : mdB a b c m = true) : mdG a b c m = true := by
  unfold mdB at h; simp only [Bool.and_eq_true] at h; exact h.1

theorem mdC_round (a b c m : Int) (hc : 0 < c) (hm : m = 0 ∨ m = 1 ∨ m = 2) : (if belB a b c = true then -(mdC a b c m) else mdC a b c m) = rnd (a * b) c m := by
  unfold mdC
  have hsc : szI c = c := by unfold szI; rw [if_neg (by omega)]
  have hbel : belB a b c = decide (a * b < 0) := by
    unfold belB
    rcases (by omega : a * b < 0 ∨ a * b = 0 ∨ 0 < a * b) with h | h | h
    · have := Int.mul_neg_of_neg_of_pos h hc; rw [decide_eq_true this, decide_eq_true h]
    · rw [h]; simp
    · have := Int.mul_pos h hc; rw [decide_eq_false (by omega), decide_eq_false (by omega)]
  rw [szI_mul, hsc, hbel]
  generalize a * b = x
  have e1 := Int.mul_ediv_add_emod (szI x) c
  have e2 := Int.emod_nonneg (szI x) (show c ≠ 0 by omega)
  have e3 := Int.emod_lt_of_pos (szI x) hc
  generalize szI x / c = Q at *
  generalize szI x % c = R at *
  by_cases hx : x < 0
  · have hs : szI x = -x := by unfold szI; rw [if_pos hx]
    rw [decide_eq_true hx, if_pos rfl]
    by_cases hR : R = 0
    · subst hR
      have hxc := (Int.ediv_emod_unique hc (a := x) (q := -Q) (r := 0)).2 ⟨by rw [Int.mul_neg]; omega, by omega, hc⟩
      have hnc := (Int.ediv_emod_unique hc (a := -x) (q := Q) (r := 0)).2 ⟨by omega, by omega, hc⟩
      rw [outB_zero _ _ _ _ hc]
      rcases hm with rfl | rfl | rfl
      · rw [rnd_even]; unfold evn; rw [hxc.1, hxc.2, if_pos (by omega)]; rfl
      · rw [rnd_down, hxc.1]; rfl
      · rw [rnd_up, hnc.1]; rfl
    · have hxc := (Int.ediv_emod_unique hc (a := x) (q := -Q - 1) (r := c - R)).2 ⟨by rw [Int.mul_sub, Int.mul_neg, Int.mul_one]; omega, by omega, by omega⟩
      have hnc := (Int.ediv_emod_unique hc (a := -x) (q := Q) (r := R)).2 ⟨by omega, by omega, e3⟩
      rcases hm with rfl | rfl | rfl
      · rw [rnd_even]; unfold evn; rw [hxc.1, hxc.2]
        have ho : outB Q R c true 0 = (decide (c < 2 * R) || (decide (2 * R = c) && decide (Q % 2 = 1))) := by simp [outB]
        rw [ho]
        rcases (by omega : 2 * R < c ∨ 2 * R = c ∨ c < 2 * R) with k | k | k
        · rw [decide_eq_false (by omega), decide_eq_false (by omega), if_neg (by omega), if_pos (by omega)]; simp [upI]
        · rw [decide_eq_false (by omega), decide_eq_true k, if_neg (by omega), if_neg (by omega)]
          by_cases o : Q % 2 = 1
          · rw [decide_eq_true o]; simp [upI]; omega
          · rw [decide_eq_false o]; simp [upI]; omega
        · rw [decide_eq_true k, if_pos (by omega)]; simp [upI]; omega
      · rw [out_down, rnd_down, hxc.1, decide_eq_true (show 0 < R by omega)]; simp [upI]; omega
      · rw [out_up, rnd_up, hnc.1]; simp [upI]
  · have hs : szI x = x := by unfold szI; rw [if_neg hx]
    rw [decide_eq_false hx, if_neg (by simp)]
    have hxc := (Int.ediv_emod_unique hc (a := x) (q := Q) (r := R)).2 ⟨by omega, by omega, e3⟩
    by_cases hR : R = 0
    · subst hR
      have hnc := (Int.ediv_emod_unique hc (a := -x) (q := -Q) (r := 0)).2 ⟨by rw [Int.mul_neg]; omega, by omega, hc⟩
      rw [outB_zero _ _ _ _ hc]
      rcases hm with rfl | rfl | rfl
      · rw [rnd_even]; unfold evn; rw [hxc.1, hxc.2, if_pos (by omega)]; rfl
      · rw [rnd_down, hxc.1]; rfl
      · rw [rnd_up, hnc.1]; simp [upI]
    · have hnc := (Int.ediv_emod_unique hc (a := -x) (q := -Q - 1) (r := c - R)).2 ⟨by rw [Int.mul_sub, Int.mul_neg, Int.mul_one]; omega, by omega, by omega⟩
      rcases hm with rfl | rfl | rfl
      · rw [rnd_even]; unfold evn; rw [hxc.1, hxc.2]
        have ho : outB Q R c false 0 = (decide (c < 2 * R) || (decide (2 * R = c) && decide (Q % 2 = 1))) := by simp [outB]
        rw [ho]
        rcases (by omega : 2 * R < c ∨ 2 * R = c ∨ c < 2 * R) with k | k | k
        · rw [decide_eq_false (by omega), decide_eq_false (by omega), if_pos (by omega)]; simp [upI]
        · rw [decide_eq_false (by omega), decide_eq_true k, if_neg (by omega), if_neg (by omega)]
          by_cases o : Q % 2 = 1
          · rw [decide_eq_true o]; simp [upI]; omega
          · rw [decide_eq_false o]; simp [upI]; omega
        · rw [decide_eq_true k, if_neg (by omega), if_pos (by omega)]; simp [upI]
      · rw [out_down, rnd_down, hxc.1]; simp [upI]
      · rw [out_up, rnd_up, hnc.1, decide_eq_true (show 0 < R by omega)]; simp [upI]; omega

theorem md_round (a b c m : Int) (hc : 0 < c) (hb : mdB a b c m = true) : mdN a b c m = rnd (a * b) c m := by
  have hg := mdB_G hb
  have hm := mode_cases (mdG_mode hg)
  have hr : rdB (mdC a b c m) = true := by unfold mdB at hb; simp only [Bool.and_eq_true] at hb; exact hb.2
  unfold mdN
  rw [hg, if_pos rfl, rdN_of _ hr]
  exact mdC_round a b c m hc hm

/-- Rounded, the lesser one is not the greater one. -/
theorem rnd_mono (x y c m : Int) (hc : 0 < c) (h : x ≤ y) : rnd x c m ≤ rnd y c m := by
  have hd := Int.ediv_le_ediv hc h
  unfold rnd
  split
  · exact hd
  · split
    · have := Int.ediv_le_ediv hc (show -y ≤ -x by omega); omega
    · unfold evn
      have a1 := Int.mul_ediv_add_emod x c
      have a2 := Int.emod_nonneg x (show c ≠ 0 by omega)
      have a3 := Int.emod_lt_of_pos x hc
      have b1 := Int.mul_ediv_add_emod y c
      have b2 := Int.emod_nonneg y (show c ≠ 0 by omega)
      have b3 := Int.emod_lt_of_pos y hc
      rcases Int.lt_or_eq_of_le hd with k | k
      · split <;> split <;> (try split) <;> (try split) <;> omega
      · rw [k] at a1 ⊢
        split <;> split <;> (try split) <;> (try split) <;> omega
end Go.Proofs.YtlbmkjicbkfmjaaGreat

/- What fx tells (layer 2), by the numbers themselves: orders, bounds, roots. -/
namespace Go.Proofs.YtlbmkjicbkfmjaaGreat
open Go.RowKit
set_option linter.unusedSimpArgs false
set_option linter.unusedVariables false

theorem fq_bad (a m : Int) (h : frB a = false ∨ a < 0) : fqN a m = 0 ∧ fqB a m = false := by
  have hb : fqB a m = false := by
    unfold fqB
    rcases h with h | h
    · rw [allB1, h, Bool.and_false]
    · have hg : rtG a 16777216 m = false := rtG_bad (.inr (.inr (by omega)))
      rw [(root_none a 16777216 m hg).2]; rfl
  exact ⟨by unfold fqN; rw [hb]; rfl, hb⟩
theorem sq_small (r t a : Int) (h0 : 0 ≤ r) (ht : 0 ≤ t) (ha : a ≤ 1125899906842624) (h : a * 16777216 = r * r + t) : r ≤ 1000000000000 := by
  rcases Int.lt_or_le 1000000000000 r with k | k
  · have := Int.mul_le_mul (Int.le_of_lt k) (Int.le_of_lt k) (by omega) h0
    omega
  · exact k
theorem fq_vals (a : Int) (ha : frB a = true) (h0 : 0 ≤ a) : ∃ r t : Int, rtF (szI a * 16777216) = r ∧ 0 ≤ r ∧ r ≤ 1000000000000 ∧ 0 ≤ t ∧ szI a * 16777216 = r * r + t ∧ a * 16777216 = r * r + t ∧ t ≤ 2 * r ∧
    (fqN a 1 = r ∧ fqB a 1 = true) ∧ (fqN a 2 = upI r (decide (0 < t)) ∧ fqB a 2 = true) ∧ (fqN a 0 = upI r (decide (r < t)) ∧ fqB a 0 = true) := by
  obtain ⟨b0, b1⟩ := frB_iff.1 ha
  obtain ⟨r, t, er, r0, r1, t0, ep, hup, x1, x2, x0⟩ := root_vals a 16777216 (frB_right ha) (by decide) (by omega)
  have hs : szI a = a := by unfold szI; rw [if_neg (by omega)]
  have hU : szI 16777216 = 16777216 := rfl
  rw [hU] at er ep
  have ea : a * 16777216 = r * r + t := by rw [← ep, hs]
  have hr := sq_small r t a r0 t0 b1 ea
  have ht2 : t ≤ 2 * r := by
    have := (rtF_spec (szI a * 16777216) (by rw [hs]; omega)).2.2
    rw [er, ep, Int.add_mul, Int.mul_add] at this
    omega
  have hall : allB [a] = true := by rw [allB1, ha]
  have fin : ∀ m x, rtN a 16777216 m = x → rtB a 16777216 m = true → 0 ≤ x → x ≤ 1000000000001 → fqN a m = x ∧ fqB a m = true := by
    intro m x e1 e2 g0 g1
    have hb : fqB a m = true := by unfold fqB; rw [e1, e2, hall, frB_eq (by omega)]; rfl
    exact ⟨by unfold fqN; rw [hb, e1]; rfl, hb⟩
  have u : ∀ o, 0 ≤ upI r o ∧ upI r o ≤ 1000000000001 := fun o => by cases o <;> simp [upI] <;> omega
  exact ⟨r, t, er, r0, hr, t0, ep, ea, ht2, fin 1 r x1.1 x1.2 r0 (by omega), fin 2 _ x2.1 x2.2 (u _).1 (u _).2, fin 0 _ x0.1 x0.2 (u _).1 (u _).2⟩

theorem unit_exact (a m : Int) (ha : frB a = true) (hm : modeB m = true) : (fmN a 16777216 m = a ∧ fmB a 16777216 m = true) ∧ (fdN a 16777216 m = a ∧ fdB a 16777216 m = true) := by
  have x := md_exact a 16777216 16777216 a m (frB_right ha) (by decide) (by decide) (frB_right ha) (by decide) hm rfl
  have hall : allB [a, 16777216] = true := by rw [allB2, ha]; decide
  have h1 : fmB a 16777216 m = true := by unfold fmB; rw [x.1, x.2, ha, hall]; rfl
  have h2 : fdB a 16777216 m = true := by unfold fdB; rw [x.1, x.2, ha, hall]; rfl
  exact ⟨⟨by unfold fmN; rw [h1, x.1]; rfl, h1⟩, ⟨by unfold fdN; rw [h2, x.1]; rfl, h2⟩⟩

theorem fmB_md {a b m : Int} (h : fmB a b m = true) : mdB a b 16777216 m = true ∧ fmN a b m = mdN a b 16777216 m := by
  have := h
  unfold fmB at this
  simp only [Bool.and_eq_true] at this
  exact ⟨this.1.1, by unfold fmN; rw [h]; rfl⟩
theorem fdB_md {a b m : Int} (h : fdB a b m = true) : mdB a 16777216 b m = true ∧ fdN a b m = mdN a 16777216 b m := by
  have := h
  unfold fdB at this
  simp only [Bool.and_eq_true] at this
  exact ⟨this.1.1, by unfold fdN; rw [h]; rfl⟩
theorem fqB_ok {a m : Int} (h : fqB a m = true) : frB a = true ∧ 0 ≤ a ∧ modeB m = true := by
  unfold fqB at h
  simp only [Bool.and_eq_true, allB1] at h
  refine ⟨h.2, ?_, ?_⟩
  · rcases Int.lt_or_le a 0 with k | k
    · have hb := (fq_bad a m (.inr k)).2
      unfold fqB at hb
      rw [h.1.1, h.1.2, allB1, h.2] at hb
      cases hb
    · exact k
  · have := h.1.1
    unfold rtB rtG at this
    simp only [Bool.and_eq_true] at this
    exact this.1.2
theorem fm_order (a b : Int) (h1 : fmB a b 1 = true) (h0 : fmB a b 0 = true) (h2 : fmB a b 2 = true) : fmN a b 1 ≤ fmN a b 0 ∧ fmN a b 0 ≤ fmN a b 2 ∧ fmN a b 2 ≤ fmN a b 1 + 1 := by
  have x1 := fmB_md h1
  have x0 := fmB_md h0
  have x2 := fmB_md h2
  rw [x1.2, x0.2, x2.2]
  exact md_order a b 16777216 x1.1 x0.1 x2.1
theorem fd_order (a b : Int) (h1 : fdB a b 1 = true) (h0 : fdB a b 0 = true) (h2 : fdB a b 2 = true) : fdN a b 1 ≤ fdN a b 0 ∧ fdN a b 0 ≤ fdN a b 2 ∧ fdN a b 2 ≤ fdN a b 1 + 1 := by
  have x1 := fdB_md h1
  have x0 := fdB_md h0
  have x2 := fdB_md h2
  rw [x1.2, x0.2, x2.2]
  exact md_order a 16777216 b x1.1 x0.1 x2.1
theorem fq_order (a : Int) (h1 : fqB a 1 = true) (h0 : fqB a 0 = true) (h2 : fqB a 2 = true) : fqN a 1 ≤ fqN a 0 ∧ fqN a 0 ≤ fqN a 2 ∧ fqN a 2 ≤ fqN a 1 + 1 := by
  have ok := fqB_ok h1
  obtain ⟨r, t, er, r0, r1, t0, ep, ea, ht2, x1, x2, x0⟩ := fq_vals a ok.1 ok.2.1
  rw [x1.1, x2.1, x0.1]
  by_cases k : 0 < t
  · rw [decide_eq_true k]
    cases decide (r < t) <;> simp [upI] <;> omega
  · rw [decide_eq_false k, decide_eq_false (show ¬ r < t by omega)]
    simp [upI]; omega
theorem fmN_bd (a b m : Int) : -1125899906842624 ≤ fmN a b m ∧ fmN a b m ≤ 1125899906842624 := toN_bd _ _ fun h => by
  unfold fmB at h; simp only [Bool.and_eq_true] at h; exact h.1.2
theorem fdN_bd (a b m : Int) : -1125899906842624 ≤ fdN a b m ∧ fdN a b m ≤ 1125899906842624 := toN_bd _ _ fun h => by
  unfold fdB at h; simp only [Bool.and_eq_true] at h; exact h.1.2
theorem fqN_bd (a m : Int) : -1125899906842624 ≤ fqN a m ∧ fqN a m ≤ 1125899906842624 := toN_bd _ _ fun h => by
  unfold fqB at h; simp only [Bool.and_eq_true] at h; exact h.1.2
theorem faN_bd (a b : Int) : -1125899906842624 ≤ faN a b ∧ faN a b ≤ 1125899906842624 := toN_bd _ _ fun h => by
  unfold faB at h; simp only [Bool.and_eq_true] at h; exact h.1

theorem fa_mono (a b c : Int) (h : a ≤ b) (h1 : faB a c = true) (h2 : faB b c = true) : faN a c ≤ faN b c := by
  unfold faN; rw [h1, h2, toN_t, toN_t]; omega
theorem fm_mono (a b c m : Int) (h : a ≤ b) (hc : 0 ≤ c) (h1 : fmB a c m = true) (h2 : fmB b c m = true) : fmN a c m ≤ fmN b c m := by
  have x1 := fmB_md h1
  have x2 := fmB_md h2
  rw [x1.2, x2.2, md_round _ _ _ _ (by decide) x1.1, md_round _ _ _ _ (by decide) x2.1]
  exact rnd_mono _ _ _ _ (by decide) (Int.mul_le_mul_of_nonneg_right h hc)
theorem fd_mono (a b c m : Int) (h : a ≤ b) (hc : 0 ≤ c) (h1 : fdB a c m = true) (h2 : fdB b c m = true) : fdN a c m ≤ fdN b c m := by
  have x1 := fdB_md h1
  have x2 := fdB_md h2
  have hz : 0 < c := by
    rcases Int.lt_or_eq_of_le hc with k | k
    · exact k
    · have := mdB_G x1.1
      rw [← k] at this
      simp [mdG] at this
  rw [x1.2, x2.2, md_round _ _ _ _ hz x1.1, md_round _ _ _ _ hz x2.1]
  exact rnd_mono _ _ _ _ hz (by omega)
theorem rtF_mono (p q : Int) (h0 : 0 ≤ p) (h : p ≤ q) : rtF p ≤ rtF q := by
  have a := rtF_spec p h0
  have b := rtF_spec q (by omega)
  rcases Int.lt_or_le (rtF q) (rtF p) with k | k
  · have := Int.mul_le_mul (show rtF q + 1 ≤ rtF p by omega) (show rtF q + 1 ≤ rtF p by omega) (by omega) (by omega)
    omega
  · exact k
theorem fq_mono (a b m : Int) (h : a ≤ b) (h1 : fqB a m = true) (h2 : fqB b m = true) : fqN a m ≤ fqN b m := by
  have k1 := fqB_ok h1
  have k2 := fqB_ok h2
  obtain ⟨r, t, er, r0, r1, t0, ep, ea, ht2, x1, x2, x0⟩ := fq_vals a k1.1 k1.2.1
  obtain ⟨s, u, es, s0, s1, u0, eq, eb, hu2, y1, y2, y0⟩ := fq_vals b k2.1 k2.2.1
  have hrs : r ≤ s := by
    have := rtF_mono (szI a * 16777216) (szI b * 16777216) (by rw [ep, ← ea]; omega) (by rw [ep, eq, ← ea, ← eb]; omega)
    rw [er, es] at this
    exact this
  have hle : r * r + t ≤ s * s + u := by rw [← ea, ← eb]; omega
  have key : ∀ (o p : Bool), (r = s → o = true → p = true) → upI r o ≤ upI s p := by
    intro o p hk
    rcases Int.lt_or_eq_of_le hrs with l | l
    · cases o <;> cases p <;> simp [upI] <;> omega
    · subst l
      cases o <;> cases p <;> simp [upI] <;> first | omega | (exact absurd (hk rfl rfl) (by simp))
  rcases mode_cases k1.2.2 with rfl | rfl | rfl
  · rw [x0.1, y0.1]
    refine key _ _ ?_
    intro e o
    subst e
    have := of_decide_eq_true o
    exact decide_eq_true (by omega)
  · rw [x1.1, y1.1]; exact hrs
  · rw [x2.1, y2.1]
    refine key _ _ ?_
    intro e o
    subst e
    have := of_decide_eq_true o
    exact decide_eq_true (by omega)

end Go.Proofs.YtlbmkjicbkfmjaaGreat

/- Enclosed numbers (layer 3): what is told of them, by the numbers themselves. -/
namespace Go.Proofs.YtlbmkjicbkfmjaaGreat
open Go.RowKit
set_option linter.unusedSimpArgs false
set_option linter.unusedVariables false

theorem rnd_order (x c : Int) (hc : 0 < c) : rnd x c 1 ≤ rnd x c 0 ∧ rnd x c 0 ≤ rnd x c 2 ∧ rnd x c 2 ≤ rnd x c 1 + 1 := by
  rw [rnd_down, rnd_up, rnd_even]
  unfold evn
  have a1 := Int.mul_ediv_add_emod x c
  have a2 := Int.emod_nonneg x (show c ≠ 0 by omega)
  have a3 := Int.emod_lt_of_pos x hc
  generalize hq : x / c = q at *
  generalize hr : x % c = r at *
  by_cases h : r = 0
  · subst h
    have hn := (Int.ediv_emod_unique hc (a := -x) (q := -q) (r := 0)).2 ⟨by rw [Int.mul_neg]; omega, by omega, hc⟩
    rw [hn.1, if_pos (by omega)]
    omega
  · have hn := (Int.ediv_emod_unique hc (a := -x) (q := -q - 1) (r := c - r)).2 ⟨by rw [Int.mul_sub, Int.mul_neg, Int.mul_one]; omega, by omega, by omega⟩
    rw [hn.1]
    split
    · omega
    · split <;> omega
theorem rnd_scale (x c k m : Int) (hc : 0 < c) (hk : 0 < k) : rnd (x * k) (c * k) m = rnd x c m := by
  have hd : x * k / (c * k) = x / c := Int.mul_ediv_mul_of_pos_left x c hk
  have hn : -(x * k) / (c * k) = -x / c := by rw [← Int.neg_mul]; exact Int.mul_ediv_mul_of_pos_left (-x) c hk
  have hm : x * k % (c * k) = x % c * k := by
    rw [Int.mul_comm x k, Int.mul_comm c k, Int.mul_emod_mul_of_pos _ _ hk, Int.mul_comm]
  unfold rnd evn
  rw [hd, hn, hm]
  have h1 : (2 * (x % c * k) < c * k) ↔ (2 * (x % c) < c) := by
    rw [← Int.mul_assoc]; exact Int.mul_lt_mul_right hk
  have h2 : (c * k < 2 * (x % c * k)) ↔ (c < 2 * (x % c)) := by
    rw [← Int.mul_assoc]; exact Int.mul_lt_mul_right hk
  simp only [h1, h2]
theorem rnd_cross (x c y d m : Int) (hc : 0 < c) (hd : 0 < d) (h : x * d ≤ y * c) : rnd x c m ≤ rnd y d m := by
  rw [← rnd_scale x c d m hc hd, ← rnd_scale y d c m hd hc, Int.mul_comm d c]
  exact rnd_mono _ _ _ _ (Int.mul_pos hc hd) h

theorem md_told (a b c m : Int) (hc : 0 < c) (hg : mdG a b c m = true) (hf : frB (rnd (a * b) c m) = true) : mdB a b c m = true ∧ mdN a b c m = rnd (a * b) c m := by
  have hm := mode_cases (mdG_mode hg)
  have e := mdC_round a b c m hc hm
  have hr : rdB (mdC a b c m) = true := by
    have k := frB_iff.1 hf
    unfold rdB
    apply decide_eq_true
    split at e <;> omega
  have hb : mdB a b c m = true := by unfold mdB; rw [hg, hr]; rfl
  exact ⟨hb, md_round a b c m hc hb⟩
theorem md_neg (a b c m : Int) : mdN (-a) b (-c) m = mdN a b c m ∧ mdB (-a) b (-c) m = mdB a b c m := by
  have s1 : szI (-a) = szI a := by unfold szI; split <;> split <;> omega
  have s2 : szI (-c) = szI c := by unfold szI; split <;> split <;> omega
  have hbel : belB (-a) b (-c) = belB a b c := by unfold belB; rw [Int.neg_mul, Int.neg_mul, Int.mul_neg, Int.neg_neg]
  have hg : mdG (-a) b (-c) m = mdG a b c m := by
    have hz : (-c == 0) = (c == 0) := by rw [Bool.eq_iff_iff]; simp
    unfold mdG; rw [right_neg, right_neg, hz]
  have hC : mdC (-a) b (-c) m = mdC a b c m := by unfold mdC; rw [s1, s2, hbel]
  constructor
  · unfold mdN; rw [hg, hC, hbel]
  · unfold mdB; rw [hg, hC]

/-- A number of mode. -/
def MD (m : Int) : Prop := m = 0 ∨ m = 1 ∨ m = 2
theorem MD.b {m : Int} (h : MD m) : modeB m = true := by rcases h with rfl | rfl | rfl <;> rfl
theorem fm_inv {a b m : Int} (h : fmB a b m = true) : frB a = true ∧ frB b = true ∧ fmN a b m = rnd (a * b) 16777216 m ∧ frB (rnd (a * b) 16777216 m) = true := by
  have x := fmB_md h
  have r := md_round _ _ _ _ (by decide) x.1
  have k := h
  unfold fmB at k
  rw [allB2] at k
  simp only [Bool.and_eq_true] at k
  rw [r] at k x
  exact ⟨k.2.1, k.2.2, x.2, k.1.2⟩
theorem fm_told {a b m : Int} (ha : frB a = true) (hb : frB b = true) (hm : MD m) (hf : frB (rnd (a * b) 16777216 m) = true) : fmB a b m = true ∧ fmN a b m = rnd (a * b) 16777216 m := by
  have hg : mdG a b 16777216 m = true := by unfold mdG; rw [frB_right ha, frB_right hb, hm.b]; rfl
  have x := md_told a b 16777216 m (by decide) hg hf
  have hB : fmB a b m = true := by unfold fmB; rw [x.1, x.2, hf, allB2, ha, hb]; rfl
  exact ⟨hB, by unfold fmN; rw [hB, x.2]; rfl⟩

/-- A quotient's parts: what stands above, and below, the line. -/
def qn (a b : Int) : Int := if b < 0 then -a * 16777216 else a * 16777216
theorem qn_neg {a b : Int} (h : b < 0) : qn a b = -a * 16777216 := if_pos h
theorem qn_pos {a b : Int} (h : ¬ b < 0) : qn a b = a * 16777216 := if_neg h
theorem szI_neg' {b : Int} (h : b < 0) : szI b = -b := if_pos h
theorem szI_pos' {b : Int} (h : ¬ b < 0) : szI b = b := if_neg h
theorem md_quot (a b m : Int) (hz : b ≠ 0) (h : mdB a 16777216 b m = true) : mdN a 16777216 b m = rnd (qn a b) (szI b) m := by
  by_cases hb : b < 0
  · have n := md_neg a 16777216 b m
    rw [← n.2] at h
    rw [← n.1, qn_neg hb, szI_neg' hb, md_round _ _ _ _ (by omega) h]
  · rw [qn_pos hb, szI_pos' hb, md_round _ _ _ _ (by omega) h]
theorem fd_inv {a b m : Int} (h : fdB a b m = true) : frB a = true ∧ frB b = true ∧ b ≠ 0 ∧ fdN a b m = rnd (qn a b) (szI b) m ∧ frB (rnd (qn a b) (szI b) m) = true := by
  have x := fdB_md h
  have hz : b ≠ 0 := by
    have := mdB_G x.1
    intro e
    rw [e] at this
    simp [mdG] at this
  have r := md_quot a b m hz x.1
  have k := h
  unfold fdB at k
  rw [allB2] at k
  simp only [Bool.and_eq_true] at k
  rw [r] at k x
  exact ⟨k.2.1, k.2.2, hz, x.2, k.1.2⟩
theorem md_qtold (a b m : Int) (hz : b ≠ 0) (hg : mdG a 16777216 b m = true) (hf : frB (rnd (qn a b) (szI b) m) = true) : mdB a 16777216 b m = true ∧ mdN a 16777216 b m = rnd (qn a b) (szI b) m := by
  by_cases hb : b < 0
  · rw [qn_neg hb, szI_neg' hb] at hf ⊢
    have n := md_neg a 16777216 b m
    rw [← n.1, ← n.2]
    refine md_told (-a) 16777216 (-b) m (by omega) ?_ hf
    have hz : (-b == 0) = (b == 0) := by rw [Bool.eq_iff_iff]; simp
    rw [← hg]
    unfold mdG; rw [right_neg, right_neg, hz]
  · rw [qn_pos hb, szI_pos' hb] at hf ⊢
    exact md_told a 16777216 b m (by omega) hg hf
theorem fd_told {a b m : Int} (ha : frB a = true) (hb : frB b = true) (hz : b ≠ 0) (hm : MD m) (hf : frB (rnd (qn a b) (szI b) m) = true) : fdB a b m = true ∧ fdN a b m = rnd (qn a b) (szI b) m := by
  have hz' : (b == 0) = false := by simpa using hz
  have hg : mdG a 16777216 b m = true := by unfold mdG; rw [frB_right ha, frB_right hb, hm.b, hz']; rfl
  have x := md_qtold a b m hz hg hf
  have hB : fdB a b m = true := by unfold fdB; rw [x.1, x.2, hf, allB2, ha, hb]; rfl
  exact ⟨hB, by unfold fdN; rw [hB, x.2]; rfl⟩

/-- An enclosed number: its value, its bounds, and whether it is Bad. -/
structure En where
  v : Int
  l : Int
  h : Int
  bad : Bool
def wrongE : En := ⟨0, 0, 0, true⟩
def ptE (n : Int) : Bool → En
  | true => ⟨n, n, n, false⟩
  | false => wrongE
def fineB (a : En) : Bool := !a.bad && decide (a.l ≤ a.v) && decide (a.v ≤ a.h) && frB a.l && frB a.h
theorem fineB_iff {a : En} : fineB a = true ↔ a.bad = false ∧ a.l ≤ a.v ∧ a.v ≤ a.h ∧ frB a.l = true ∧ frB a.h = true := by
  unfold fineB; simp [Bool.and_eq_true, and_assoc]
/-- The least, and the greatest, of what is told of pairs of bounds; and whether all of it is told. -/
def lowF (N : Int → Int → Int → Int) (ps : List (Int × Int)) : Int := ps.foldl (fun x p => min x (N p.1 p.2 1)) 1125899906842624
def highF (N : Int → Int → Int → Int) (ps : List (Int × Int)) : Int := ps.foldl (fun x p => max x (N p.1 p.2 2)) (-1125899906842624)
def okF (B : Int → Int → Int → Bool) (ps : List (Int × Int)) : Bool := ps.all fun p => B p.1 p.2 1 && B p.1 p.2 2
/-- What comes of a and b. -/
def okE (B : Int → Int → Int → Bool) (a b : En) (ps : List (Int × Int)) : Bool := B a.v b.v 0 && fineB a && fineB b && okF B ps
def toldE (N : Int → Int → Int → Int) (B : Int → Int → Int → Bool) (a b : En) (ps : List (Int × Int)) : En :=
  if okE B a b ps then ⟨N a.v b.v 0, lowF N ps, highF N ps, false⟩ else wrongE
def prs2 (a b : En) : List (Int × Int) := [(a.l, b.l), (a.h, b.h)]
def prsX (a b : En) : List (Int × Int) := [(a.l, b.h), (a.h, b.l)]
def prs4 (a b : En) : List (Int × Int) := [(a.l, b.l), (a.l, b.h), (a.h, b.l), (a.h, b.h)]
def nA (a b _m : Int) : Int := faN a b
def bA (a b _m : Int) : Bool := faB a b
def nS (a b _m : Int) : Int := fsN a b
def bS (a b _m : Int) : Bool := fsB a b
def nQ (a _b m : Int) : Int := fqN a m
def bQ (a _b m : Int) : Bool := fqB a m
def addE (a b : En) : En := toldE nA bA a b (prs2 a b)
def subE (a b : En) : En := toldE nS bS a b (prsX a b)
def mulE (a b : En) : En := toldE fmN fmB a b (prs4 a b)
/-- Does it enclose 0? -/
def zeroB (b : En) : Bool := decide (b.l ≤ 0) && decide (0 ≤ b.h)
def divE (a b : En) : En := if zeroB b then wrongE else toldE fdN fdB a b (prs4 a b)
def rootE (a : En) : En := toldE nQ bQ a a (prs2 a a)

theorem foldl_min (f : Int × Int → Int) : ∀ (ps : List (Int × Int)) (i : Int), ps.foldl (fun x p => min x (f p)) i ≤ i ∧ (∀ p ∈ ps, ps.foldl (fun x p => min x (f p)) i ≤ f p) ∧ (∀ c, c ≤ i → (∀ p ∈ ps, c ≤ f p) → c ≤ ps.foldl (fun x p => min x (f p)) i)
  | [], i => ⟨Int.le_refl _, fun _ h => by simp at h, fun _ h _ => h⟩
  | q :: ps, i => by
    obtain ⟨h1, h2, h3⟩ := foldl_min f ps (min i (f q))
    simp only [List.foldl_cons]
    refine ⟨by omega, ?_, ?_⟩
    · intro p hp
      rcases List.mem_cons.1 hp with rfl | hp
      · omega
      · exact h2 p hp
    · intro c hc hall
      refine h3 c ?_ fun p hp => hall p (List.mem_cons_of_mem _ hp)
      have := hall q List.mem_cons_self
      omega
theorem foldl_max (f : Int × Int → Int) : ∀ (ps : List (Int × Int)) (i : Int), i ≤ ps.foldl (fun x p => max x (f p)) i ∧ (∀ p ∈ ps, f p ≤ ps.foldl (fun x p => max x (f p)) i) ∧ (∀ c, i ≤ c → (∀ p ∈ ps, f p ≤ c) → ps.foldl (fun x p => max x (f p)) i ≤ c)
  | [], i => ⟨Int.le_refl _, fun _ h => by simp at h, fun _ h _ => h⟩
  | q :: ps, i => by
    obtain ⟨h1, h2, h3⟩ := foldl_max f ps (max i (f q))
    simp only [List.foldl_cons]
    refine ⟨by omega, ?_, ?_⟩
    · intro p hp
      rcases List.mem_cons.1 hp with rfl | hp
      · omega
      · exact h2 p hp
    · intro c hc hall
      refine h3 c ?_ fun p hp => hall p (List.mem_cons_of_mem _ hp)
      have := hall q List.mem_cons_self
      omega
/-- What is told is a number that may be. -/
def Bd (N : Int → Int → Int → Int) : Prop := ∀ a b m, -1125899906842624 ≤ N a b m ∧ N a b m ≤ 1125899906842624
theorem fsN_bd (a b : Int) : -1125899906842624 ≤ fsN a b ∧ fsN a b ≤ 1125899906842624 := toN_bd _ _ fun h => by
  unfold fsB at h; simp only [Bool.and_eq_true] at h; exact h.1
theorem bdA : Bd nA := fun a b _ => faN_bd a b
theorem bdS : Bd nS := fun a b _ => fsN_bd a b
theorem bdM : Bd fmN := fmN_bd
theorem bdD : Bd fdN := fdN_bd
theorem bdQ : Bd nQ := fun a _ m => fqN_bd a m
theorem low_bd {N : Int → Int → Int → Int} (hN : Bd N) (ps : List (Int × Int)) : -1125899906842624 ≤ lowF N ps ∧ lowF N ps ≤ 1125899906842624 := by
  obtain ⟨h1, h2, h3⟩ := foldl_min (fun p => N p.1 p.2 1) ps 1125899906842624
  exact ⟨h3 _ (by omega) fun p _ => (hN _ _ _).1, h1⟩
theorem high_bd {N : Int → Int → Int → Int} (hN : Bd N) (ps : List (Int × Int)) : -1125899906842624 ≤ highF N ps ∧ highF N ps ≤ 1125899906842624 := by
  obtain ⟨h1, h2, h3⟩ := foldl_max (fun p => N p.1 p.2 2) ps (-1125899906842624)
  exact ⟨h1, h3 _ (by omega) fun p _ => (hN _ _ _).2⟩
theorem low_le {N : Int → Int → Int → Int} {ps : List (Int × Int)} {p : Int × Int} (h : p ∈ ps) : lowF N ps ≤ N p.1 p.2 1 := (foldl_min (fun p => N p.1 p.2 1) ps 1125899906842624).2.1 p h
theorem le_high {N : Int → Int → Int → Int} {ps : List (Int × Int)} {p : Int × Int} (h : p ∈ ps) : N p.1 p.2 2 ≤ highF N ps := (foldl_max (fun p => N p.1 p.2 2) ps (-1125899906842624)).2.1 p h
theorem ok_at {B : Int → Int → Int → Bool} {ps : List (Int × Int)} {p : Int × Int} (h : okF B ps = true) (hp : p ∈ ps) : B p.1 p.2 1 = true ∧ B p.1 p.2 2 = true := by
  have := List.all_eq_true.1 h p hp
  simpa [Bool.and_eq_true] using this

/-- What is told of x and y lies between what is told of the bounds. -/
structure Hold (N : Int → Int → Int → Int) (B : Int → Int → Int → Bool) (ps : List (Int × Int)) (x y : Int) : Prop where
  told : ∀ m, MD m → B x y m = true
  low : lowF N ps ≤ N x y 1
  down : N x y 1 ≤ N x y 0
  up : N x y 0 ≤ N x y 2
  high : N x y 2 ≤ highF N ps

/-- x lies between the bounds of a. -/
def inB (a : En) (x : Int) : Prop := a.l ≤ x ∧ x ≤ a.h
theorem in_fr {a : En} (h : fineB a = true) {x : Int} (k : inB a x) : frB x = true := by
  obtain ⟨_, _, _, h1, h2⟩ := fineB_iff.1 h
  have := frB_iff.1 h1
  have := frB_iff.1 h2
  unfold inB at k
  exact frB_eq (by omega)
theorem in_v {a : En} (h : fineB a = true) : inB a a.v := by
  obtain ⟨_, h1, h2, _, _⟩ := fineB_iff.1 h
  exact ⟨h1, h2⟩

theorem fa_val {a b : Int} (h : faB a b = true) : faN a b = a + b ∧ frB (a + b) = true := by
  have k := h
  unfold faB at k
  rw [Bool.and_eq_true] at k
  exact ⟨by unfold faN; rw [h]; rfl, k.1⟩
theorem fa_told {a b : Int} (ha : frB a = true) (hb : frB b = true) (h : frB (a + b) = true) : faB a b = true ∧ faN a b = a + b := by
  have k : faB a b = true := by unfold faB; rw [h, allB2, ha, hb]; rfl
  exact ⟨k, by unfold faN; rw [k]; rfl⟩
theorem fs_val {a b : Int} (h : fsB a b = true) : fsN a b = a - b ∧ frB (a - b) = true := by
  have k := h
  unfold fsB at k
  rw [Bool.and_eq_true] at k
  exact ⟨by unfold fsN; rw [h]; rfl, k.1⟩
theorem fs_told {a b : Int} (ha : frB a = true) (hb : frB b = true) (h : frB (a - b) = true) : fsB a b = true ∧ fsN a b = a - b := by
  have k : fsB a b = true := by unfold fsB; rw [h, allB2, ha, hb]; rfl
  exact ⟨k, by unfold fsN; rw [k]; rfl⟩

theorem hold_add {a b : En} (ha : fineB a = true) (hb : fineB b = true) (ho : okF bA (prs2 a b) = true) {x y : Int} (hx : inB a x) (hy : inB b y) : Hold nA bA (prs2 a b) x y := by
  have m1 : (a.l, b.l) ∈ prs2 a b := by simp [prs2]
  have m2 : (a.h, b.h) ∈ prs2 a b := by simp [prs2]
  have v1 := fa_val (ok_at ho m1).1
  have v2 := fa_val (ok_at ho m2).1
  have g1 := frB_iff.1 v1.2
  have g2 := frB_iff.1 v2.2
  have hx' := hx
  have hy' := hy
  unfold inB at hx' hy'
  have t := fa_told (in_fr ha hx) (in_fr hb hy) (frB_eq (by omega))
  have l1 := low_le (N := nA) m1
  have l2 := le_high (N := nA) m2
  unfold nA at l1 l2
  simp only at l1 l2 v1 v2
  rw [v1.1] at l1
  rw [v2.1] at l2
  refine ⟨fun _ _ => t.1, ?_, Int.le_refl _, Int.le_refl _, ?_⟩
  · show lowF nA (prs2 a b) ≤ faN x y
    rw [t.2]
    exact Int.le_trans l1 (by omega)
  · show faN x y ≤ highF nA (prs2 a b)
    rw [t.2]
    exact Int.le_trans (by omega) l2
theorem hold_sub {a b : En} (ha : fineB a = true) (hb : fineB b = true) (ho : okF bS (prsX a b) = true) {x y : Int} (hx : inB a x) (hy : inB b y) : Hold nS bS (prsX a b) x y := by
  have m1 : (a.l, b.h) ∈ prsX a b := by simp [prsX]
  have m2 : (a.h, b.l) ∈ prsX a b := by simp [prsX]
  have v1 := fs_val (ok_at ho m1).1
  have v2 := fs_val (ok_at ho m2).1
  have g1 := frB_iff.1 v1.2
  have g2 := frB_iff.1 v2.2
  have hx' := hx
  have hy' := hy
  unfold inB at hx' hy'
  have t := fs_told (in_fr ha hx) (in_fr hb hy) (frB_eq (by omega))
  have l1 := low_le (N := nS) m1
  have l2 := le_high (N := nS) m2
  unfold nS at l1 l2
  simp only at l1 l2 v1 v2
  rw [v1.1] at l1
  rw [v2.1] at l2
  refine ⟨fun _ _ => t.1, ?_, Int.le_refl _, Int.le_refl _, ?_⟩
  · show lowF nS (prsX a b) ≤ fsN x y
    rw [t.2]
    exact Int.le_trans l1 (by omega)
  · show fsN x y ≤ highF nS (prsX a b)
    rw [t.2]
    exact Int.le_trans (by omega) l2

theorem lin (l h t k : Int) (h1 : l ≤ t) (h2 : t ≤ h) : (l * k ≤ t * k ∨ h * k ≤ t * k) ∧ (t * k ≤ l * k ∨ t * k ≤ h * k) := by
  rcases Int.le_total 0 k with hk | hk
  · exact ⟨.inl (Int.mul_le_mul_of_nonneg_right h1 hk), .inr (Int.mul_le_mul_of_nonneg_right h2 hk)⟩
  · exact ⟨.inr (Int.mul_le_mul_of_nonpos_right h2 hk), .inl (Int.mul_le_mul_of_nonpos_right h1 hk)⟩
theorem corners {a b : En} {x y : Int} (hx : inB a x) (hy : inB b y) : (∃ p ∈ prs4 a b, p.1 * p.2 ≤ x * y) ∧ (∃ p ∈ prs4 a b, x * y ≤ p.1 * p.2) := by
  have m1 : (a.l, b.l) ∈ prs4 a b := by simp [prs4]
  have m2 : (a.l, b.h) ∈ prs4 a b := by simp [prs4]
  have m3 : (a.h, b.l) ∈ prs4 a b := by simp [prs4]
  have m4 : (a.h, b.h) ∈ prs4 a b := by simp [prs4]
  have ky := lin b.l b.h y x hy.1 hy.2
  rw [Int.mul_comm y x, Int.mul_comm b.l x, Int.mul_comm b.h x] at ky
  have kl := lin a.l a.h x b.l hx.1 hx.2
  have kh := lin a.l a.h x b.h hx.1 hx.2
  constructor
  · rcases ky.1 with h | h
    · rcases kl.1 with k | k
      · exact ⟨_, m1, Int.le_trans k h⟩
      · exact ⟨_, m3, Int.le_trans k h⟩
    · rcases kh.1 with k | k
      · exact ⟨_, m2, Int.le_trans k h⟩
      · exact ⟨_, m4, Int.le_trans k h⟩
  · rcases ky.2 with h | h
    · rcases kl.2 with k | k
      · exact ⟨_, m1, Int.le_trans h k⟩
      · exact ⟨_, m3, Int.le_trans h k⟩
    · rcases kh.2 with k | k
      · exact ⟨_, m2, Int.le_trans h k⟩
      · exact ⟨_, m4, Int.le_trans h k⟩
theorem hold_mul {a b : En} (ha : fineB a = true) (hb : fineB b = true) (ho : okF fmB (prs4 a b) = true) {x y : Int} (hx : inB a x) (hy : inB b y) : Hold fmN fmB (prs4 a b) x y := by
  obtain ⟨⟨p, mp, kp⟩, ⟨q, mq, kq⟩⟩ := corners hx hy
  have vp := fm_inv (ok_at ho mp).1
  have vq := fm_inv (ok_at ho mq).2
  have o := rnd_order (x * y) 16777216 (by decide)
  have r1 := rnd_mono _ _ 16777216 1 (by decide) kp
  have r2 := rnd_mono _ _ 16777216 2 (by decide) kq
  have f1 := frB_iff.1 vp.2.2.2
  have f2 := frB_iff.1 vq.2.2.2
  have t : ∀ m, MD m → fmB x y m = true ∧ fmN x y m = rnd (x * y) 16777216 m := by
    intro m hm
    refine fm_told (in_fr ha hx) (in_fr hb hy) hm (frB_eq ?_)
    rcases hm with rfl | rfl | rfl <;> omega
  have l1 := low_le (N := fmN) mp
  have l2 := le_high (N := fmN) mq
  rw [vp.2.2.1] at l1
  rw [vq.2.2.1] at l2
  refine ⟨fun m hm => (t m hm).1, ?_, ?_, ?_, ?_⟩
  · rw [(t 1 (.inr (.inl rfl))).2]; omega
  · rw [(t 1 (.inr (.inl rfl))).2, (t 0 (.inl rfl)).2]; omega
  · rw [(t 0 (.inl rfl)).2, (t 2 (.inr (.inr rfl))).2]; omega
  · rw [(t 2 (.inr (.inr rfl))).2]; omega

/-- Quotients by numbers above 0: which of the bounds' is not above, and not below. -/
theorem quots (al ah bl bh x y : Int) (h0 : 0 < bl) (h1 : al ≤ x) (h2 : x ≤ ah) (h3 : bl ≤ y) (h4 : y ≤ bh) :
    (al * y ≤ x * bl ∨ al * y ≤ x * bh) ∧ (x * bl ≤ ah * y ∨ x * bh ≤ ah * y) := by
  constructor
  · rcases Int.le_total 0 al with h | h
    · right
      exact Int.le_trans (Int.mul_le_mul_of_nonneg_left h4 h) (Int.mul_le_mul_of_nonneg_right h1 (by omega))
    · left
      exact Int.le_trans (Int.mul_le_mul_of_nonpos_left h h3) (Int.mul_le_mul_of_nonneg_right h1 (by omega))
  · rcases Int.le_total 0 ah with h | h
    · left
      exact Int.le_trans (Int.mul_le_mul_of_nonneg_right h2 (by omega)) (Int.mul_le_mul_of_nonneg_left h3 h)
    · right
      exact Int.le_trans (Int.mul_le_mul_of_nonneg_right h2 (by omega)) (Int.mul_le_mul_of_nonpos_left h h4)
theorem scl {p q r s : Int} (h : p * q ≤ r * s) : p * 16777216 * q ≤ r * 16777216 * s := by
  rw [Int.mul_right_comm p, Int.mul_right_comm r]
  exact Int.mul_le_mul_of_nonneg_right h (by decide)
theorem qcorners {a b : En} {x y : Int} (hz : zeroB b = false) (hx : inB a x) (hy : inB b y) :
    (∃ p ∈ prs4 a b, qn p.1 p.2 * szI y ≤ qn x y * szI p.2) ∧ (∃ p ∈ prs4 a b, qn x y * szI p.2 ≤ qn p.1 p.2 * szI y) := by
  have m1 : (a.l, b.l) ∈ prs4 a b := by simp [prs4]
  have m2 : (a.l, b.h) ∈ prs4 a b := by simp [prs4]
  have m3 : (a.h, b.l) ∈ prs4 a b := by simp [prs4]
  have m4 : (a.h, b.h) ∈ prs4 a b := by simp [prs4]
  unfold inB at hx hy
  have hside : 0 < b.l ∨ b.h < 0 := by
    unfold zeroB at hz
    rw [Bool.and_eq_false_iff] at hz
    rcases hz with h | h
    · have := of_decide_eq_false h; omega
    · have := of_decide_eq_false h; omega
  rcases hside with h0 | h0
  · have e1 : ∀ z, qn z b.l = z * 16777216 := fun z => qn_pos (by omega)
    have e2 : ∀ z, qn z b.h = z * 16777216 := fun z => qn_pos (by omega)
    have e3 : qn x y = x * 16777216 := qn_pos (by omega)
    have s1 : szI b.l = b.l := szI_pos' (by omega)
    have s2 : szI b.h = b.h := szI_pos' (by omega)
    have s3 : szI y = y := szI_pos' (by omega)
    have k := quots a.l a.h b.l b.h x y h0 hx.1 hx.2 hy.1 hy.2
    constructor
    · rcases k.1 with h | h
      · refine ⟨_, m1, ?_⟩; simp only [e1, e3, s1, s3]; exact scl h
      · refine ⟨_, m2, ?_⟩; simp only [e2, e3, s2, s3]; exact scl h
    · rcases k.2 with h | h
      · refine ⟨_, m3, ?_⟩; simp only [e1, e3, s1, s3]; exact scl h
      · refine ⟨_, m4, ?_⟩; simp only [e2, e3, s2, s3]; exact scl h
  · have e1 : ∀ z, qn z b.l = -z * 16777216 := fun z => qn_neg (by omega)
    have e2 : ∀ z, qn z b.h = -z * 16777216 := fun z => qn_neg (by omega)
    have e3 : qn x y = -x * 16777216 := qn_neg (by omega)
    have s1 : szI b.l = -b.l := szI_neg' (by omega)
    have s2 : szI b.h = -b.h := szI_neg' (by omega)
    have s3 : szI y = -y := szI_neg' (by omega)
    have k := quots (-a.h) (-a.l) (-b.h) (-b.l) (-x) (-y) (by omega) (by omega) (by omega) (by omega) (by omega)
    constructor
    · rcases k.1 with h | h
      · refine ⟨_, m4, ?_⟩; simp only [e2, e3, s2, s3]; exact scl h
      · refine ⟨_, m3, ?_⟩; simp only [e1, e3, s1, s3]; exact scl h
    · rcases k.2 with h | h
      · refine ⟨_, m2, ?_⟩; simp only [e2, e3, s2, s3]; exact scl h
      · refine ⟨_, m1, ?_⟩; simp only [e1, e3, s1, s3]; exact scl h
theorem szI_pp {b : Int} (h : b ≠ 0) : 0 < szI b := by unfold szI; split <;> omega
theorem hold_div {a b : En} (ha : fineB a = true) (hb : fineB b = true) (hz : zeroB b = false) (ho : okF fdB (prs4 a b) = true) {x y : Int} (hx : inB a x) (hy : inB b y) : Hold fdN fdB (prs4 a b) x y := by
  obtain ⟨⟨p, mp, kp⟩, ⟨q, mq, kq⟩⟩ := qcorners hz hx hy
  have vp := fd_inv (ok_at ho mp).1
  have vq := fd_inv (ok_at ho mq).2
  have y0 : y ≠ 0 := by
    unfold inB at hy
    unfold zeroB at hz
    rw [Bool.and_eq_false_iff] at hz
    rcases hz with h | h
    · have := of_decide_eq_false h; omega
    · have := of_decide_eq_false h; omega
  have sy := szI_pp y0
  have sp := szI_pp vp.2.2.1
  have sq := szI_pp vq.2.2.1
  have o := rnd_order (qn x y) (szI y) sy
  have r1 := rnd_cross _ _ _ _ 1 sp sy kp
  have r2 := rnd_cross _ _ _ _ 2 sy sq kq
  have f1 := frB_iff.1 vp.2.2.2.2
  have f2 := frB_iff.1 vq.2.2.2.2
  have t : ∀ m, MD m → fdB x y m = true ∧ fdN x y m = rnd (qn x y) (szI y) m := by
    intro m hm
    refine fd_told (in_fr ha hx) (in_fr hb hy) y0 hm (frB_eq ?_)
    rcases hm with rfl | rfl | rfl <;> omega
  have l1 := low_le (N := fdN) mp
  have l2 := le_high (N := fdN) mq
  rw [vp.2.2.2.1] at l1
  rw [vq.2.2.2.1] at l2
  refine ⟨fun m hm => (t m hm).1, ?_, ?_, ?_, ?_⟩
  · rw [(t 1 (.inr (.inl rfl))).2]; omega
  · rw [(t 1 (.inr (.inl rfl))).2, (t 0 (.inl rfl)).2]; omega
  · rw [(t 0 (.inl rfl)).2, (t 2 (.inr (.inr rfl))).2]; omega
  · rw [(t 2 (.inr (.inr rfl))).2]; omega
theorem fqB_told {a m : Int} (ha : frB a = true) (h0 : 0 ≤ a) (hm : MD m) : fqB a m = true := by
  obtain ⟨r, t, er, r0, r1, t0, ep, ea, ht2, x1, x2, x0⟩ := fq_vals a ha h0
  rcases hm with rfl | rfl | rfl
  · exact x0.2
  · exact x1.2
  · exact x2.2
theorem hold_root {a : En} (ha : fineB a = true) (ho : okF bQ (prs2 a a) = true) {x y : Int} (hx : inB a x) : Hold nQ bQ (prs2 a a) x y := by
  have m1 : (a.l, a.l) ∈ prs2 a a := by simp [prs2]
  have m2 : (a.h, a.h) ∈ prs2 a a := by simp [prs2]
  have v1 := (ok_at ho m1).1
  have v2 := (ok_at ho m2).2
  have l1 := low_le (N := nQ) m1
  have l2 := le_high (N := nQ) m2
  simp only [bQ, nQ] at v1 v2 l1 l2
  have k1 := fqB_ok v1
  have t : ∀ m, MD m → fqB x m = true := fun m hm => fqB_told (in_fr ha hx) (by unfold inB at hx; omega) hm
  have t1 := t 1 (.inr (.inl rfl))
  have t0 := t 0 (.inl rfl)
  have t2 := t 2 (.inr (.inr rfl))
  have o := fq_order x t1 t0 t2
  have r1 := fq_mono _ _ 1 hx.1 v1 t1
  have r2 := fq_mono _ _ 2 hx.2 t2 v2
  generalize hP : lowF nQ (prs2 a a) = P at *
  generalize hQ : highF nQ (prs2 a a) = Q at *
  refine ⟨?_, ?_, ?_, ?_, ?_⟩
  · intro m hm
    simp only [bQ]
    exact t m hm
  · rw [hP]; simp only [nQ]; omega
  · simp only [nQ]; omega
  · simp only [nQ]; omega
  · rw [hQ]; simp only [nQ]; omega
end Go.Proofs.YtlbmkjicbkfmjaaGreat

/- Contracts of env.Wrong, point, Point, Of, Fine, Sign, Meet (layer 3), and of the document's Fine. -/
namespace Go.Proofs.YtlbmkjicbkfmjaaGreat
open Go.RowKit
set_option linter.unusedSimpArgs false
set_option linter.unusedVariables false

/-- An enclosed number, as the program has it. -/
abbrev enV (x : En) : Value := .agg #[.int .i64 x.v, .int .i64 x.l, .int .i64 x.h, .bool x.bad]

theorem wrong_any (w : World) :
    Calls Tryz.prog 109 #[] w fun e w' => e = .returned (enV wrongE) ∧ Bl w w' := by
  go_enter Tryz.func109, Tryz.ntmps109
  go_wp2
  simp [bodyPost, results, Tryz.results109, go_sem, wrongE]
  exact (Bl.refl _).alloc _

theorem given_any (a : En) (w : World) :
    Calls Tryz.prog 19 #[enV a] w fun e w' => e = .returned (enV a) ∧ Bl w w' := by
  go_enter Tryz.func19, Tryz.ntmps19
  go_wp2
  simp [bodyPost, results, Tryz.results19, go_sem]
  exact ((Bl.refl _).alloc _).alloc _

/-- A block of four cells that holds an enclosed number. -/
structure Box (w : World) (b : Nat) (x : En) : Prop where
  c0 : w.cell? ⟨b, 0, none⟩ = some (.int .i64 x.v)
  c1 : w.cell? ⟨b, 1, none⟩ = some (.int .i64 x.l)
  c2 : w.cell? ⟨b, 2, none⟩ = some (.int .i64 x.h)
  c3 : w.cell? ⟨b, 3, none⟩ = some (.bool x.bad)
  f0 : w.frozen? ⟨b, 0, none⟩ = false
  f1 : w.frozen? ⟨b, 1, none⟩ = false
  f2 : w.frozen? ⟨b, 2, none⟩ = false
  f3 : w.frozen? ⟨b, 3, none⟩ = false
  lt : b < w.heap.size
theorem Box.later {w w' : World} {b : Nat} {x : En} (h : Box w b x) (k : Bl w w') : Box w' b x := by
  have := h.lt
  refine ⟨?_, ?_, ?_, ?_, ?_, ?_, ?_, ?_, by have := Below.size k; omega⟩
  · rw [bl_cell k _ _ this]; exact h.c0
  · rw [bl_cell k _ _ this]; exact h.c1
  · rw [bl_cell k _ _ this]; exact h.c2
  · rw [bl_cell k _ _ this]; exact h.c3
  · rw [bl_froz k _ _ this]; exact h.f0
  · rw [bl_froz k _ _ this]; exact h.f1
  · rw [bl_froz k _ _ this]; exact h.f2
  · rw [bl_froz k _ _ this]; exact h.f3
theorem Box.new (w : World) (x : En) (t : TypeId) : Box (w.alloc (.cells #[.int .i64 x.v, .int .i64 x.l, .int .i64 x.h, .bool x.bad] t)) w.heap.size x := by
  refine ⟨?_, ?_, ?_, ?_, ?_, ?_, ?_, ?_, by simp⟩ <;> simp [go_sem]
theorem Bl.set4 {a b : World} (h : Bl a b) {n : Nat} (hn : a.heap.size ≤ n) (v0 v1 v2 v3 : Value) : Bl a ((((b.setCell ⟨n, 0, none⟩ v0).setCell ⟨n, 1, none⟩ v1).setCell ⟨n, 2, none⟩ v2).setCell ⟨n, 3, none⟩ v3) :=
  Bl.set (Bl.set (Bl.set (Bl.set h hn _) hn _) hn _) hn _
/-- One that is laid, and not yet filled. -/
def zeroE : En := ⟨0, 0, 0, false⟩

theorem point_any (n : Int) (is : Bool) (w : World) :
    Calls Tryz.prog 64 #[.int .i64 n, .bool is] w fun e w' => e = .returned (enV (ptE n is)) ∧ Bl w w' := by
  cases is
  · obtain ⟨W, hW⟩ : ∃ W, W = w.alloc (.cells #[.int .i64 0, .int .i64 0, .int .i64 0, .bool false] 28) := ⟨_, rfl⟩
    have b0 : Bl w W := by rw [hW]; exact (Bl.refl _).alloc _
    have x0 : Box W w.heap.size zeroE := by rw [hW]; exact Box.new w zeroE _
    have HW := hideP hW
    clear hW
    go_enter Tryz.func64, Tryz.ntmps64
    go_wp2_with fail
    rw [← HW.out]
    refine (wrong_any _).mono ?_
    rintro e w1 ⟨rfl, h1⟩
    obtain ⟨c0, c1, c2, c3, f0, f1, f2, f3, lt⟩ := x0.later h1
    go_wp2
    simp [bodyPost, results, Tryz.results64, go_sem, c0, c1, c2, c3, ptE]
    exact Bl.set (Bl.set (Bl.set (Bl.set (b0.trans h1) (Nat.le_refl _) _) (Nat.le_refl _) _) (Nat.le_refl _) _) (Nat.le_refl _) _
  · go_enter Tryz.func64, Tryz.ntmps64
    go_wp2
    simp [bodyPost, results, Tryz.results64, go_sem, ptE]
    exact (Bl.refl _).alloc _

theorem fine_any (a : En) (w : World) :
    Calls Tryz.prog 91 #[enV a] w fun e w' => e = .returned (.bool (fineB a)) ∧ Bl w w' := by
  obtain ⟨v, l, h, bd⟩ := a
  unfold fineB
  simp only
  cases bd
  · by_cases h1 : l ≤ v
    · by_cases h2 : v ≤ h
      · rw [decide_eq_true h1, decide_eq_true h2]
        cases h3 : frB l
        · go_enter Tryz.func91, Tryz.ntmps91
          go_wp2_with (go_at_call 65; refine (fright_any _ _).mono ?_; rintro e w' ⟨rfl, rfl⟩)
          go_ret
          exact ⟨rfl, (Bl.refl _).alloc _⟩
        · go_enter Tryz.func91, Tryz.ntmps91
          go_wp2_with (go_at_call 65; refine (fright_any _ _).mono ?_; rintro e w' ⟨rfl, rfl⟩)
          go_ret
          exact ⟨rfl, (Bl.refl _).alloc _⟩
      · rw [decide_eq_false h2]
        go_enter Tryz.func91, Tryz.ntmps91
        go_wp2
        go_ret
        exact ⟨by simp, (Bl.refl _).alloc _⟩
    · rw [decide_eq_false h1]
      go_enter Tryz.func91, Tryz.ntmps91
      go_wp2
      go_ret
      exact ⟨by simp, (Bl.refl _).alloc _⟩
  · go_enter Tryz.func91, Tryz.ntmps91
    go_wp2
    go_ret
    exact ⟨by simp, (Bl.refl _).alloc _⟩

theorem pointE_any (n : Int) (w : World) :
    Calls Tryz.prog 24 #[.int .i64 n] w fun e w' => e = .returned (enV (ptE n (frB n))) ∧ Bl w w' := by
  obtain ⟨W, hW⟩ : ∃ W, W = w.alloc (.cells #[.int .i64 0, .int .i64 0, .int .i64 0, .bool false] 28) := ⟨_, rfl⟩
  have b0 : Bl w W := by rw [hW]; exact (Bl.refl _).alloc _
  have x0 : Box W w.heap.size zeroE := by rw [hW]; exact Box.new w zeroE _
  have HW := hideP hW
  clear hW
  go_enter Tryz.func24, Tryz.ntmps24
  go_wp2_with fail
  rw [← HW.out]
  refine (fright_any _ _).mono ?_
  rintro e w1 ⟨rfl, rfl⟩
  go_wp2_with fail
  refine (point_any _ _ _).mono ?_
  rintro e w1 ⟨rfl, h1⟩
  obtain ⟨c0, c1, c2, c3, f0, f1, f2, f3, lt⟩ := x0.later h1
  go_wp2
  simp [bodyPost, results, Tryz.results24, go_sem, c0, c1, c2, c3]
  exact Bl.set (Bl.set (Bl.set (Bl.set (b0.trans h1) (Nat.le_refl _) _) (Nat.le_refl _) _) (Nat.le_refl _) _) (Nat.le_refl _) _

theorem ofE_any (a : En) (n : Int) (w : World) :
    Calls Tryz.prog 25 #[enV a, .int .i64 n] w fun e w' => e = .returned (enV (ptE (foN n) (foB n))) ∧ Bl w w' := by
  obtain ⟨W, hW⟩ : ∃ W, W = (w.alloc (.cells #[.int .i64 a.v, .int .i64 a.l, .int .i64 a.h, .bool a.bad] 28)).alloc (.cells #[.int .i64 0, .int .i64 0, .int .i64 0, .bool false] 28) := ⟨_, rfl⟩
  have b0 : Bl w W := by rw [hW]; exact ((Bl.refl _).alloc _).alloc _
  have x0 : Box W (w.heap.size + 1) zeroE := by rw [hW]; have := Box.new (w.alloc (.cells #[.int .i64 a.v, .int .i64 a.l, .int .i64 a.h, .bool a.bad] 28)) zeroE 28; simpa [zeroE] using this
  have HW := hideP hW
  clear hW
  go_enter Tryz.func25, Tryz.ntmps25
  go_wp2_with fail
  rw [← HW.out]
  refine (fof_any _ _).mono ?_
  rintro e w1 ⟨rfl, h1⟩
  go_wp2_with fail
  refine (point_any _ _ _).mono ?_
  rintro e w2 ⟨rfl, h2⟩
  obtain ⟨c0, c1, c2, c3, f0, f1, f2, f3, lt⟩ := x0.later (h1.trans h2)
  go_wp2
  simp [bodyPost, results, Tryz.results25, go_sem, c0, c1, c2, c3]
  exact Bl.set (Bl.set (Bl.set (Bl.set ((b0.trans h1).trans h2) (by simp) _) (by simp) _) (by simp) _) (by simp) _

def signE (a : En) : Int := match a.bad with
  | true => 0
  | false => cmpI a.v 0
theorem signE_any (a : En) (w : World) :
    Calls Tryz.prog 206 #[enV a] w fun e w' => e = .returned (.int .i64 (signE a)) ∧ Bl w w' := by
  obtain ⟨v, l, h, bd⟩ := a
  unfold signE
  cases bd
  · go_enter Tryz.func206, Tryz.ntmps206
    go_wp2_with (go_at_call 174; refine (cmpInt_any _ _ _).mono ?_; rintro e w' ⟨rfl, rfl⟩)
    go_ret
    exact ⟨rfl, (Bl.refl _).alloc _⟩
  · go_enter Tryz.func206, Tryz.ntmps206
    go_wp2
    go_ret
    exact ⟨rfl, (Bl.refl _).alloc _⟩

def meetB (a b : En) : Bool := !a.bad && (!b.bad && decide (max a.l b.l ≤ min a.h b.h))
theorem refFine_any (a : En) (w : World) :
    Calls Tryz.prog 107 #[enV a] w fun e w' => e = .returned (.bool (fineB a)) ∧ Bl w w' := by
  obtain ⟨v, l, h, bd⟩ := a
  unfold fineB
  simp only
  cases bd
  · cases h3 : frB l
    · go_enter Tryz.func107, Tryz.ntmps107
      go_wp2_with (go_at_call 140; refine (fRefRight_any _ _).mono ?_; rintro e w' ⟨rfl, rfl⟩)
      go_ret
      exact ⟨by simp, (Bl.refl _).alloc _⟩
    · cases h4 : frB h
      · go_enter Tryz.func107, Tryz.ntmps107
        go_wp2_with (go_at_call 140; refine (fRefRight_any _ _).mono ?_; rintro e w' ⟨rfl, rfl⟩)
        go_ret
        exact ⟨by simp, (Bl.refl _).alloc _⟩
      · by_cases h1 : l ≤ v
        · rw [decide_eq_true h1]
          go_enter Tryz.func107, Tryz.ntmps107
          go_wp2_with (go_at_call 140; refine (fRefRight_any _ _).mono ?_; rintro e w' ⟨rfl, rfl⟩)
          go_ret
          exact ⟨by simp, (Bl.refl _).alloc _⟩
        · rw [decide_eq_false h1]
          go_enter Tryz.func107, Tryz.ntmps107
          go_wp2_with (go_at_call 140; refine (fRefRight_any _ _).mono ?_; rintro e w' ⟨rfl, rfl⟩)
          go_ret
          exact ⟨by simp, (Bl.refl _).alloc _⟩
  · go_enter Tryz.func107, Tryz.ntmps107
    go_wp2
    go_ret
    exact ⟨by simp, (Bl.refl _).alloc _⟩
end Go.Proofs.YtlbmkjicbkfmjaaGreat

/- The contract of env.told (layer 3), for what is done of a pair, whatever it be. -/
namespace Go.Proofs.YtlbmkjicbkfmjaaGreat
open Go.RowKit
set_option linter.unusedSimpArgs false
set_option linter.unusedVariables false

abbrev prV (x y : Int) : Value := .agg #[.int .i64 x, .int .i64 y]
/-- The pairs of a slice, in a world. -/
def Prs (w : World) (blk : Nat) (ps : List (Int × Int)) : Prop :=
  blk < w.heap.size ∧ ∀ k, k < ps.length → w.cell? ⟨blk, k * 2, none⟩ = some (.int .i64 (ps.getD k (0, 0)).1) ∧ w.cell? ⟨blk, k * 2 + 1, none⟩ = some (.int .i64 (ps.getD k (0, 0)).2)
theorem Prs.later {w w' : World} {blk : Nat} {ps : List (Int × Int)} (h : Prs w blk ps) (k : Bl w w') : Prs w' blk ps := by
  refine ⟨by have := Below.size k; have := h.1; omega, fun j hj => ?_⟩
  rw [bl_cell k _ _ h.1, bl_cell k _ _ h.1]
  exact h.2 j hj
theorem take_getD (ps : List (Int × Int)) (k : Nat) (h : k < ps.length) : ps.take (k + 1) = ps.take k ++ [ps.getD k (0, 0)] := by
  rw [List.take_succ_eq_append_getElem h]
  simp [List.getD_eq_getElem?_getD, h]
theorem low_snoc (N : Int → Int → Int → Int) (ps : List (Int × Int)) (p : Int × Int) : lowF N (ps ++ [p]) = min (lowF N ps) (N p.1 p.2 1) := by
  unfold lowF; rw [List.foldl_append]; rfl
theorem high_snoc (N : Int → Int → Int → Int) (ps : List (Int × Int)) (p : Int × Int) : highF N (ps ++ [p]) = max (highF N ps) (N p.1 p.2 2) := by
  unfold highF; rw [List.foldl_append]; rfl
theorem ok_snoc (B : Int → Int → Int → Bool) (ps : List (Int × Int)) (p : Int × Int) : okF B (ps ++ [p]) = (okF B ps && (B p.1 p.2 1 && B p.1 p.2 2)) := by
  unfold okF; rw [List.all_append]; simp
theorem ok_no (B : Int → Int → Int → Bool) (ps : List (Int × Int)) (k : Nat) (h : k < ps.length) (hp : (B (ps.getD k (0, 0)).1 (ps.getD k (0, 0)).2 1 && B (ps.getD k (0, 0)).1 (ps.getD k (0, 0)).2 2) = false) : okF B ps = false := by
  unfold okF
  rw [Bool.eq_false_iff, ne_eq, List.all_eq_true]
  intro hall
  have := hall (ps[k]) (List.getElem_mem h)
  rw [List.getD_eq_getElem?_getD, List.getElem?_eq_getElem h] at hp
  simp [this] at hp

theorem told_bad {N : Int → Int → Int → Int} {B : Int → Int → Int → Bool} {a b : En} {ps : List (Int × Int)} (h : okE B a b ps = false) : toldE N B a b ps = wrongE := by
  unfold toldE; rw [h]; rfl
theorem told_ok {N : Int → Int → Int → Int} {B : Int → Int → Int → Bool} {a b : En} {ps : List (Int × Int)} (h : okE B a b ps = true) : toldE N B a b ps = ⟨N a.v b.v 0, lowF N ps, highF N ps, false⟩ := by
  unfold toldE; rw [h]; rfl

set_option maxHeartbeats 2000000 in
theorem toldE_any (K : Nat) (N : Int → Int → Int → Int) (B : Int → Int → Int → Bool) (a b : En) (ps : List (Int × Int)) (blk : Nat) (w : World)
    (eg : ∀ (args : Array Value) (w : World), (callFunc K args).run Tryz.prog w = .ok (.enter K args) w)
    (hf : ∀ x y m w', Calls Tryz.prog K #[prV x y, .int .i64 m] w' fun e w'' => e = .returned (.tuple #[.int .i64 (N x y m), .bool (B x y m)]) ∧ Bl w' w'')
    (hl : ps.length ≤ 4) (hp : Prs w blk ps) :
    Calls Tryz.prog 210 #[enV a, enV b, .func (.func K) #[] #[], .slice (some ⟨blk, 0, none⟩) ps.length ps.length] w fun e w' => e = .returned (enV (toldE N B a b ps)) ∧ Bl w w' := by
  obtain ⟨W, hW⟩ : ∃ W, W = ((w.alloc (.cells #[.int .i64 a.v, .int .i64 a.l, .int .i64 a.h, .bool a.bad] 28)).alloc (.cells #[.int .i64 b.v, .int .i64 b.l, .int .i64 b.h, .bool b.bad] 28)).alloc (.cells #[.int .i64 0, .int .i64 0, .int .i64 0, .bool false] 28) := ⟨_, rfl⟩
  have b0 : Bl w W := by rw [hW]; exact (((Bl.refl _).alloc _).alloc _).alloc _
  have xa : Box W w.heap.size a := by
    rw [hW]
    exact (Box.new w a 28).later (((Bl.refl _).alloc _).alloc _)
  have xb : Box W (w.heap.size + 1) b := by
    rw [hW]
    have := (Box.new (w.alloc (.cells #[.int .i64 a.v, .int .i64 a.l, .int .i64 a.h, .bool a.bad] 28)) b 28).later ((Bl.refl _).alloc (.cells #[.int .i64 0, .int .i64 0, .int .i64 0, .bool false] 28))
    simpa using this
  have xz : Box W (w.heap.size + 2) zeroE := by
    rw [hW]
    have := Box.new ((w.alloc (.cells #[.int .i64 a.v, .int .i64 a.l, .int .i64 a.h, .bool a.bad] 28)).alloc (.cells #[.int .i64 b.v, .int .i64 b.l, .int .i64 b.h, .bool b.bad] 28)) zeroE 28
    simpa [zeroE] using this
  have ca := xa.c0
  have cb := xb.c0
  have HW := hideP hW
  have HF := hideP hf
  have HP := hideP (hp.later b0)
  have XA := hideP xa
  have XB := hideP xb
  have XZ := hideP xz
  have HB0 := hideP b0
  clear hW hf hp xa xb xz b0
  have hbad : ∀ w1, Bl W w1 → okE B a b ps = false → True := fun _ _ _ => trivial
  clear hbad
  have FA := hideP (fine_any a)
  have FB := hideP (fine_any b)
  have TB : okE B a b ps = (B a.v b.v 0 && fineB a && fineB b && okF B ps) := rfl
  cases hv : B a.v b.v 0
  · have HT := hideP (told_bad (N := N) (show okE B a b ps = false by rw [TB, hv]; rfl))
    have F0 := HF.out a.v b.v 0
    rw [hv] at F0
    generalize N a.v b.v 0 = n at F0
    have HF0 := hideP F0
    clear F0 TB hv
    go_enter Tryz.func210, Tryz.ntmps210
    go_wp2_with fail
    rw [← HW.out]
    go_wp2_with fail
    refine (HF0.out _).mono ?_
    rintro e w1 ⟨rfl, h1⟩
    go_wp2_with fail
    refine (wrong_any _).mono ?_
    rintro e w2 ⟨rfl, h2⟩
    obtain ⟨c0, c1, c2, c3, f0, f1, f2, f3, lt⟩ := XZ.out.later (h1.trans h2)
    go_wp2
    rw [HT.out]
    simp [bodyPost, results, Tryz.results210, go_sem, c0, c1, c2, c3]
    exact Bl.set4 ((HB0.out.trans h1).trans h2) (by omega) _ _ _ _
  have F0 := HF.out a.v b.v 0
  rw [hv] at F0
  cases ha : fineB a
  · have HT := hideP (told_bad (N := N) (show okE B a b ps = false by rw [TB, ha]; simp))
    have A0 := FA.out
    rw [ha] at A0
    generalize N a.v b.v 0 = n at F0
    have HF0 := hideP F0
    have HA0 := hideP A0
    clear F0 A0 TB hv ha
    go_enter Tryz.func210, Tryz.ntmps210
    go_wp2_with fail
    rw [← HW.out]
    go_wp2_with fail
    refine (HF0.out _).mono ?_
    rintro e w1 ⟨rfl, h1⟩
    obtain ⟨a0, a1, a2, a3, _, _, _, _, _⟩ := XA.out.later h1
    go_wp2_with fail
    refine (HA0.out _).mono ?_
    rintro e w2 ⟨rfl, h2⟩
    go_wp2_with fail
    refine (wrong_any _).mono ?_
    rintro e w3 ⟨rfl, h3⟩
    obtain ⟨c0, c1, c2, c3, f0, f1, f2, f3, lt⟩ := XZ.out.later ((h1.trans h2).trans h3)
    go_wp2
    rw [HT.out]
    simp [bodyPost, results, Tryz.results210, go_sem, c0, c1, c2, c3]
    exact Bl.set4 (((HB0.out.trans h1).trans h2).trans h3) (by omega) _ _ _ _
  have A0 := FA.out
  rw [ha] at A0
  cases hb : fineB b
  · have HT := hideP (told_bad (N := N) (show okE B a b ps = false by rw [TB, hb]; simp))
    have B0 := FB.out
    rw [hb] at B0
    generalize N a.v b.v 0 = n at F0
    have HF0 := hideP F0
    have HA0 := hideP A0
    have HB1 := hideP B0
    clear F0 A0 B0 TB hv ha hb
    go_enter Tryz.func210, Tryz.ntmps210
    go_wp2_with fail
    rw [← HW.out]
    go_wp2_with fail
    refine (HF0.out _).mono ?_
    rintro e w1 ⟨rfl, h1⟩
    obtain ⟨a0, a1, a2, a3, _, _, _, _, _⟩ := XA.out.later h1
    go_wp2_with fail
    refine (HA0.out _).mono ?_
    rintro e w2 ⟨rfl, h2⟩
    obtain ⟨d0, d1, d2, d3, _, _, _, _, _⟩ := XB.out.later (h1.trans h2)
    go_wp2_with fail
    refine (HB1.out _).mono ?_
    rintro e w3 ⟨rfl, h3⟩
    go_wp2_with fail
    refine (wrong_any _).mono ?_
    rintro e w4 ⟨rfl, h4⟩
    obtain ⟨c0, c1, c2, c3, f0, f1, f2, f3, lt⟩ := XZ.out.later (((h1.trans h2).trans h3).trans h4)
    go_wp2
    rw [HT.out]
    simp [bodyPost, results, Tryz.results210, go_sem, c0, c1, c2, c3]
    exact Bl.set4 ((((HB0.out.trans h1).trans h2).trans h3).trans h4) (by omega) _ _ _ _
  have B0 := FB.out
  rw [hb] at B0
  have TT : okE B a b ps = okF B ps := by rw [TB, hv, ha, hb]; rfl
  have HTB := hideP (fun h => told_bad (N := N) (show okE B a b ps = false from TT.trans h))
  have HTO := hideP (fun h => told_ok (N := N) (show okE B a b ps = true from TT.trans h))
  generalize N a.v b.v 0 = n at F0 HTO
  have HF0 := hideP F0
  have HA0 := hideP A0
  have HB1 := hideP B0
  clear F0 A0 B0 TB TT hv ha hb FA FB
  go_enter Tryz.func210, Tryz.ntmps210
  go_wp2_with fail
  rw [← HW.out]
  go_wp2_with fail
  refine (HF0.out _).mono ?_
  rintro e w1 ⟨rfl, h1⟩
  obtain ⟨a0, a1, a2, a3, _, _, _, _, _⟩ := XA.out.later h1
  go_wp2_with fail
  refine (HA0.out _).mono ?_
  rintro e w2 ⟨rfl, h2⟩
  obtain ⟨d0, d1, d2, d3, _, _, _, _, _⟩ := XB.out.later (h1.trans h2)
  go_wp2_with fail
  refine (HB1.out _).mono ?_
  rintro e w3 ⟨rfl, h3⟩
  have HB3 := hideP ((h1.trans h2).trans h3)
  clear h1 h2 h3 a0 a1 a2 a3 d0 d1 d2 d3 ca cb
  go_wp2_with fail
  go_loopw [11, 12, 44] (fun lo hi i wr => ∃ k : Nat, k ≤ ps.length ∧ i = .int .i64 k ∧ lo = .int .i64 (lowF N (ps.take k)) ∧ hi = .int .i64 (highF N (ps.take k)) ∧ okF B (ps.take k) = true ∧ Bl w3 wr) (fun _ _ i _ => ps.length - (intOf i).toNat)
  case atStart => exact ⟨0, by omega, rfl, rfl, rfl, rfl, Bl.refl _⟩
  case round =>
    obtain ⟨k, hk, rfl, rfl, rfl, ho, hB⟩ := hrel
    by_cases hlt : k < ps.length
    · obtain ⟨p0, p1⟩ := (HP.out.later (HB3.out.trans hB)).2 k hlt
      have e1 := low_snoc N (ps.take k) (ps.getD k (0, 0))
      have e2 := high_snoc N (ps.take k) (ps.getD k (0, 0))
      have e3 := ok_snoc B (ps.take k) (ps.getD k (0, 0))
      rw [← take_getD ps k hlt] at e1 e2 e3
      have e4 := ok_no B ps k hlt
      have D := HF.out (ps.getD k (0, 0)).1 (ps.getD k (0, 0)).2 1
      have U := HF.out (ps.getD k (0, 0)).1 (ps.getD k (0, 0)).2 2
      rw [ho] at e3
      generalize (ps.getD k (0, 0)).1 = x at *
      generalize (ps.getD k (0, 0)).2 = y at *
      generalize N x y 1 = n1 at *
      generalize N x y 2 = n2 at *
      obtain ⟨V, hV⟩ : ∃ V, V = wr.alloc (.cells #[.int .i64 x, .int .i64 y] 219) := ⟨_, rfl⟩
      have bV : Bl wr V := by rw [hV]; exact (Bl.refl _).alloc _
      have v0 : V.cell? ⟨wr.heap.size, 0, none⟩ = some (.int .i64 x) := by rw [hV]; simp [go_sem]
      have v1 : V.cell? ⟨wr.heap.size, 1, none⟩ = some (.int .i64 y) := by rw [hV]; simp [go_sem]
      have lV : wr.heap.size < V.heap.size := by rw [hV]; simp
      have HV := hideP hV
      have HC := hideP (And.intro v0 v1)
      clear hV v0 v1
      have E4 := hideP e4
      clear e4
      have E1 := hideP e1
      have E2 := hideP e2
      have E3 := hideP e3
      clear e1 e2 e3 ho
      generalize lowF N (ps.take k) = lo at *
      generalize highF N (ps.take k) = hi at *
      cases hd : B x y 1
      · have HT := hideP (HTB.out (E4.out (by rw [hd]; rfl)))
        rw [hd] at D
        have HD := hideP D
        have HU := hideP U
        clear D U hd
        go_wp2_with fail
        rw [← HV.out]
        refine (HD.out _).mono ?_
        rintro e w4 ⟨rfl, h4⟩
        have v0 : w4.cell? ⟨wr.heap.size, 0, none⟩ = some (.int .i64 x) := by rw [bl_cell h4 _ _ lV]; exact HC.out.1
        have v1 : w4.cell? ⟨wr.heap.size, 1, none⟩ = some (.int .i64 y) := by rw [bl_cell h4 _ _ lV]; exact HC.out.2
        go_wp2_with fail
        refine (HU.out _).mono ?_
        rintro e w5 ⟨rfl, h5⟩
        go_wp2_with fail
        refine (wrong_any _).mono ?_
        rintro e w6 ⟨rfl, h6⟩
        obtain ⟨c0, c1, c2, c3, f0, f1, f2, f3, lt⟩ := XZ.out.later (((((HB3.out.trans hB).trans bV).trans h4).trans h5).trans h6)
        go_wp2
        rw [HT.out]
        simp [bodyPost, results, Tryz.results210, go_sem, c0, c1, c2, c3]
        exact Bl.set4 (((((((HB0.out.trans HB3.out)).trans hB).trans bV).trans h4).trans h5).trans h6) (by omega) _ _ _ _
      · cases hu : B x y 2
        · have HT := hideP (HTB.out (E4.out (by rw [hd, hu]; rfl)))
          rw [hd] at D
          rw [hu] at U
          have HD := hideP D
          have HU := hideP U
          clear D U hd hu
          go_wp2_with fail
          rw [← HV.out]
          refine (HD.out _).mono ?_
          rintro e w4 ⟨rfl, h4⟩
          have v0 : w4.cell? ⟨wr.heap.size, 0, none⟩ = some (.int .i64 x) := by rw [bl_cell h4 _ _ lV]; exact HC.out.1
          have v1 : w4.cell? ⟨wr.heap.size, 1, none⟩ = some (.int .i64 y) := by rw [bl_cell h4 _ _ lV]; exact HC.out.2
          go_wp2_with fail
          refine (HU.out _).mono ?_
          rintro e w5 ⟨rfl, h5⟩
          go_wp2_with fail
          refine (wrong_any _).mono ?_
          rintro e w6 ⟨rfl, h6⟩
          obtain ⟨c0, c1, c2, c3, f0, f1, f2, f3, lt⟩ := XZ.out.later (((((HB3.out.trans hB).trans bV).trans h4).trans h5).trans h6)
          go_wp2
          rw [HT.out]
          simp [bodyPost, results, Tryz.results210, go_sem, c0, c1, c2, c3]
          exact Bl.set4 (((((((HB0.out.trans HB3.out)).trans hB).trans bV).trans h4).trans h5).trans h6) (by omega) _ _ _ _
        · have HG := hideP (show okF B (ps.take (k + 1)) = true by rw [E3.out, hd, hu]; rfl)
          rw [hd] at D
          rw [hu] at U
          have HD := hideP D
          have HU := hideP U
          clear D U hd hu
          go_wp2_with fail
          rw [← HV.out]
          refine (HD.out _).mono ?_
          rintro e w4 ⟨rfl, h4⟩
          have v0 : w4.cell? ⟨wr.heap.size, 0, none⟩ = some (.int .i64 x) := by rw [bl_cell h4 _ _ lV]; exact HC.out.1
          have v1 : w4.cell? ⟨wr.heap.size, 1, none⟩ = some (.int .i64 y) := by rw [bl_cell h4 _ _ lV]; exact HC.out.2
          go_wp2_with fail
          refine (HU.out _).mono ?_
          rintro e w5 ⟨rfl, h5⟩
          go_wp2
          go_roundw
          case rel => exact ⟨k + 1, by omega, by go_num, by rw [E1.out], by rw [E2.out], HG.out, ((hB.trans bV).trans h4).trans h5⟩
          case measure => simp [intOf]; omega
    · have e : ps.take k = ps := List.take_of_length_le (by omega)
      rw [e] at ho ⊢
      have HO := hideP (HTO.out ho)
      obtain ⟨c0, c1, c2, c3, f0, f1, f2, f3, lt⟩ := XZ.out.later (HB3.out.trans hB)
      have HBB := hideP ((HB0.out.trans HB3.out).trans hB)
      clear ho e hB
      generalize lowF N ps = lo at *
      generalize highF N ps = hi at *
      go_wp2
      rw [HO.out]
      simp [bodyPost, results, Tryz.results210, go_sem, c0, c1, c2, c3]
      exact Bl.set4 HBB.out (by omega) _ _ _ _
end Go.Proofs.YtlbmkjicbkfmjaaGreat
