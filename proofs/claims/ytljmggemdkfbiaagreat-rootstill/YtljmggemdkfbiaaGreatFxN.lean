/- What fx tells (layer 2), by the numbers themselves: orders, bounds, roots. -/
import Derived.Test.YtljmggemdkfbiaaGreatWlr
import Derived.Test.YtljmggemdkfbiaaGreatFx2
import Derived.Test.YtljmggemdkfbiaaGreatLawE
import Derived.Test.YtljmggemdkfbiaaGreatMdC
namespace Go.Proofs.YtljmggemdkfbiaaGreat
open Go.RowKit
set_option linter.unusedSimpArgs false
set_option linter.unusedVariables false

theorem fq_bad (a m : Int) (h : frB a = false ∨ a < 0) : fqN a m = 0 ∧ fqB a m = false := by
  have hb : fqB a m = false := by
    unfold fqB
    rcases h with h | h
    · rw [allB1, h, Bool.and_false]
    · have hg : rtG a 16777216 m = false := rtG_bad (.inr (.inr (by omega)))
      rw [(root_none a 16777216 m hg).2]; rfl
  exact ⟨by unfold fqN; rw [hb]; rfl, hb⟩
theorem sq_small (r t a : Int) (h0 : 0 ≤ r) (ht : 0 ≤ t) (ha : a ≤ 1125899906842624) (h : a * 16777216 = r * r + t) : r ≤ 1000000000000 := by
  rcases Int.lt_or_le 1000000000000 r with k | k
  · have := Int.mul_le_mul (Int.le_of_lt k) (Int.le_of_lt k) (by omega) h0
    omega
  · exact k
theorem fq_vals (a : Int) (ha : frB a = true) (h0 : 0 ≤ a) : ∃ r t : Int, rtF (szI a * 16777216) = r ∧ 0 ≤ r ∧ r ≤ 1000000000000 ∧ 0 ≤ t ∧ szI a * 16777216 = r * r + t ∧ a * 16777216 = r * r + t ∧ t ≤ 2 * r ∧
    (fqN a 1 = r ∧ fqB a 1 = true) ∧ (fqN a 2 = upI r (decide (0 < t)) ∧ fqB a 2 = true) ∧ (fqN a 0 = upI r (decide (r < t)) ∧ fqB a 0 = true) := by
  obtain ⟨b0, b1⟩ := frB_iff.1 ha
  obtain ⟨r, t, er, r0, r1, t0, ep, hup, x1, x2, x0⟩ := root_vals a 16777216 (frB_right ha) (by decide) (by omega)
  have hs : szI a = a := by unfold szI; rw [if_neg (by omega)]
  have hU : szI 16777216 = 16777216 := rfl
  rw [hU] at er ep
  have ea : a * 16777216 = r * r + t := by rw [← ep, hs]
  have hr := sq_small r t a r0 t0 b1 ea
  have ht2 : t ≤ 2 * r := by
    have := (rtF_spec (szI a * 16777216) (by rw [hs]; omega)).2.2
    rw [er, ep, Int.add_mul, Int.mul_add] at this
    omega
  have hall : allB [a] = true := by rw [allB1, ha]
  have fin : ∀ m x, rtN a 16777216 m = x → rtB a 16777216 m = true → 0 ≤ x → x ≤ 1000000000001 → fqN a m = x ∧ fqB a m = true := by
    intro m x e1 e2 g0 g1
    have hb : fqB a m = true := by unfold fqB; rw [e1, e2, hall, frB_eq (by omega)]; rfl
    exact ⟨by unfold fqN; rw [hb, e1]; rfl, hb⟩
  have u : ∀ o, 0 ≤ upI r o ∧ upI r o ≤ 1000000000001 := fun o => by cases o <;> simp [upI] <;> omega
  exact ⟨r, t, er, r0, hr, t0, ep, ea, ht2, fin 1 r x1.1 x1.2 r0 (by omega), fin 2 _ x2.1 x2.2 (u _).1 (u _).2, fin 0 _ x0.1 x0.2 (u _).1 (u _).2⟩

theorem unit_exact (a m : Int) (ha : frB a = true) (hm : modeB m = true) : (fmN a 16777216 m = a ∧ fmB a 16777216 m = true) ∧ (fdN a 16777216 m = a ∧ fdB a 16777216 m = true) := by
  have x := md_exact a 16777216 16777216 a m (frB_right ha) (by decide) (by decide) (frB_right ha) (by decide) hm rfl
  have hall : allB [a, 16777216] = true := by rw [allB2, ha]; decide
  have h1 : fmB a 16777216 m = true := by unfold fmB; rw [x.1, x.2, ha, hall]; rfl
  have h2 : fdB a 16777216 m = true := by unfold fdB; rw [x.1, x.2, ha, hall]; rfl
  exact ⟨⟨by unfold fmN; rw [h1, x.1]; rfl, h1⟩, ⟨by unfold fdN; rw [h2, x.1]; rfl, h2⟩⟩

theorem fmB_md {a b m : Int} (h : fmB a b m = true) : mdB a b 16777216 m = true ∧ fmN a b m = mdN a b 16777216 m := by
  have := h
  unfold fmB at this
  simp only [Bool.and_eq_true] at this
  exact ⟨this.1.1, by unfold fmN; rw [h]; rfl⟩
theorem fdB_md {a b m : Int} (h : fdB a b m = true) : mdB a 16777216 b m = true ∧ fdN a b m = mdN a 16777216 b m := by
  have := h
  unfold fdB at this
  simp only [Bool.and_eq_true] at this
  exact ⟨this.1.1, by unfold fdN; rw [h]; rfl⟩
theorem fqB_ok {a m : Int} (h : fqB a m = true) : frB a = true ∧ 0 ≤ a ∧ modeB m = true := by
  unfold fqB at h
  simp only [Bool.and_eq_true, allB1] at h
  refine ⟨h.2, ?_, ?_⟩
  · rcases Int.lt_or_le a 0 with k | k
    · have hb := (fq_bad a m (.inr k)).2
      unfold fqB at hb
      rw [h.1.1, h.1.2, allB1, h.2] at hb
      cases hb
    · exact k
  · have := h.1.1
    unfold rtB rtG at this
    simp only [Bool.and_eq_true] at this
    exact this.1.2
theorem fm_order (a b : Int) (h1 : fmB a b 1 = true) (h0 : fmB a b 0 = true) (h2 : fmB a b 2 = true) : fmN a b 1 ≤ fmN a b 0 ∧ fmN a b 0 ≤ fmN a b 2 ∧ fmN a b 2 ≤ fmN a b 1 + 1 := by
  have x1 := fmB_md h1
  have x0 := fmB_md h0
  have x2 := fmB_md h2
  rw [x1.2, x0.2, x2.2]
  exact md_order a b 16777216 x1.1 x0.1 x2.1
theorem fd_order (a b : Int) (h1 : fdB a b 1 = true) (h0 : fdB a b 0 = true) (h2 : fdB a b 2 = true) : fdN a b 1 ≤ fdN a b 0 ∧ fdN a b 0 ≤ fdN a b 2 ∧ fdN a b 2 ≤ fdN a b 1 + 1 := by
  have x1 := fdB_md h1
  have x0 := fdB_md h0
  have x2 := fdB_md h2
  rw [x1.2, x0.2, x2.2]
  exact md_order a 16777216 b x1.1 x0.1 x2.1
theorem fq_order (a : Int) (h1 : fqB a 1 = true) (h0 : fqB a 0 = true) (h2 : fqB a 2 = true) : fqN a 1 ≤ fqN a 0 ∧ fqN a 0 ≤ fqN a 2 ∧ fqN a 2 ≤ fqN a 1 + 1 := by
  have ok := fqB_ok h1
  obtain ⟨r, t, er, r0, r1, t0, ep, ea, ht2, x1, x2, x0⟩ := fq_vals a ok.1 ok.2.1
  rw [x1.1, x2.1, x0.1]
  by_cases k : 0 < t
  · rw [decide_eq_true k]
    cases decide (r < t) <;> simp [upI] <;> omega
  · rw [decide_eq_false k, decide_eq_false (show ¬ r < t by omega)]
    simp [upI]; omega
theorem fmN_bd (a b m : Int) : -1125899906842624 ≤ fmN a b m ∧ fmN a b m ≤ 1125899906842624 := toN_bd _ _ fun h => by
  unfold fmB at h; simp only [Bool.and_eq_true] at h; exact h.1.2
theorem fdN_bd (a b m : Int) : -1125899906842624 ≤ fdN a b m ∧ fdN a b m ≤ 1125899906842624 := toN_bd _ _ fun h => by
  unfold fdB at h; simp only [Bool.and_eq_true] at h; exact h.1.2
theorem fqN_bd (a m : Int) : -1125899906842624 ≤ fqN a m ∧ fqN a m ≤ 1125899906842624 := toN_bd _ _ fun h => by
  unfold fqB at h; simp only [Bool.and_eq_true] at h; exact h.1.2
theorem faN_bd (a b : Int) : -1125899906842624 ≤ faN a b ∧ faN a b ≤ 1125899906842624 := toN_bd _ _ fun h => by
  unfold faB at h; simp only [Bool.and_eq_true] at h; exact h.1

theorem fa_mono (a b c : Int) (h : a ≤ b) (h1 : faB a c = true) (h2 : faB b c = true) : faN a c ≤ faN b c := by
  unfold faN; rw [h1, h2, toN_t, toN_t]; omega
theorem fm_mono (a b c m : Int) (h : a ≤ b) (hc : 0 ≤ c) (h1 : fmB a c m = true) (h2 : fmB b c m = true) : fmN a c m ≤ fmN b c m := by
  have x1 := fmB_md h1
  have x2 := fmB_md h2
  rw [x1.2, x2.2, md_round _ _ _ _ (by decide) x1.1, md_round _ _ _ _ (by decide) x2.1]
  exact rnd_mono _ _ _ _ (by decide) (Int.mul_le_mul_of_nonneg_right h hc)
theorem fd_mono (a b c m : Int) (h : a ≤ b) (hc : 0 ≤ c) (h1 : fdB a c m = true) (h2 : fdB b c m = true) : fdN a c m ≤ fdN b c m := by
  have x1 := fdB_md h1
  have x2 := fdB_md h2
  have hz : 0 < c := by
    rcases Int.lt_or_eq_of_le hc with k | k
    · exact k
    · have := mdB_G x1.1
      rw [← k] at this
      simp [mdG] at this
  rw [x1.2, x2.2, md_round _ _ _ _ hz x1.1, md_round _ _ _ _ hz x2.1]
  exact rnd_mono _ _ _ _ hz (by omega)
theorem rtF_mono (p q : Int) (h0 : 0 ≤ p) (h : p ≤ q) : rtF p ≤ rtF q := by
  have a := rtF_spec p h0
  have b := rtF_spec q (by omega)
  rcases Int.lt_or_le (rtF q) (rtF p) with k | k
  · have := Int.mul_le_mul (show rtF q + 1 ≤ rtF p by omega) (show rtF q + 1 ≤ rtF p by omega) (by omega) (by omega)
    omega
  · exact k
theorem fq_mono (a b m : Int) (h : a ≤ b) (h1 : fqB a m = true) (h2 : fqB b m = true) : fqN a m ≤ fqN b m := by
  have k1 := fqB_ok h1
  have k2 := fqB_ok h2
  obtain ⟨r, t, er, r0, r1, t0, ep, ea, ht2, x1, x2, x0⟩ := fq_vals a k1.1 k1.2.1
  obtain ⟨s, u, es, s0, s1, u0, eq, eb, hu2, y1, y2, y0⟩ := fq_vals b k2.1 k2.2.1
  have hrs : r ≤ s := by
    have := rtF_mono (szI a * 16777216) (szI b * 16777216) (by rw [ep, ← ea]; omega) (by rw [ep, eq, ← ea, ← eb]; omega)
    rw [er, es] at this
    exact this
  have hle : r * r + t ≤ s * s + u := by rw [← ea, ← eb]; omega
  have key : ∀ (o p : Bool), (r = s → o = true → p = true) → upI r o ≤ upI s p := by
    intro o p hk
    rcases Int.lt_or_eq_of_le hrs with l | l
    · cases o <;> cases p <;> simp [upI] <;> omega
    · subst l
      cases o <;> cases p <;> simp [upI] <;> first | omega | (exact absurd (hk rfl rfl) (by simp))
  rcases mode_cases k1.2.2 with rfl | rfl | rfl
  · rw [x0.1, y0.1]
    refine key _ _ ?_
    intro e o
    subst e
    have := of_decide_eq_true o
    exact decide_eq_true (by omega)
  · rw [x1.1, y1.1]; exact hrs
  · rw [x2.1, y2.1]
    refine key _ _ ?_
    intro e o
    subst e
    have := of_decide_eq_true o
    exact decide_eq_true (by omega)

end Go.Proofs.YtljmggemdkfbiaaGreat
