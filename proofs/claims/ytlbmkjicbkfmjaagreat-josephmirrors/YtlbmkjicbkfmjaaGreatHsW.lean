/- HouseRow: the root of a whole number that is not great, its signs turned, its square. Mathematics alone. -/
import Derived.Test.YtlbmkjicbkfmjaaGreatHsX
import Derived.Test.YtlbmkjicbkfmjaaGreatHsY
namespace Go.Proofs.YtlbmkjicbkfmjaaGreat
open Go.RowKit
set_option linter.unusedSimpArgs false
set_option linter.unusedVariables false

theorem root_row {D : Int} (h1 : 1 ≤ D) (h2 : D ≤ 80000) : ∃ v l h : Int, rootE (itN D) = ⟨v, l, h, false⟩ ∧ 1 ≤ l ∧ l ≤ v ∧ v ≤ h ∧ h ≤ 5000000000 := by
  have hw : Wn D := ⟨by omega, by omega⟩
  obtain ⟨r, t, _, r0, _, t0, _, ea, ht, x1, x2, x0⟩ := fq_vals (D * 16777216) (fr_it hw) (by omega)
  have r1 : 1 ≤ r := by
    refine Int.not_lt.1 fun hh => ?_
    have : r = 0 := by omega
    subst this
    omega
  have r2 : r ≤ 4999999999 := by
    refine sq_le r0 (by omega) ?_
    omega
  have hs : Same (prs2 (itN D) (itN D)) (D * 16777216) (D * 16777216) := same_prs2 _ _
  have ok : okE bQ (itN D) (itN D) (prs2 (itN D) (itN D)) = true := okE_iff.2 ⟨x0.2, fineN_it hw, fineN_it hw, by rw [hs.ok]; unfold bQ; rw [x1.2, x2.2]; rfl⟩
  refine ⟨_, _, _, by unfold rootE; rw [told_ok (N := nQ) ok, hs.low bdQ, hs.high bdQ], ?_⟩
  show 1 ≤ fqN (D * 16777216) 1 ∧ fqN (D * 16777216) 1 ≤ fqN (D * 16777216) 0 ∧ fqN (D * 16777216) 0 ≤ fqN (D * 16777216) 2 ∧ fqN (D * 16777216) 2 ≤ 5000000000
  rw [x0.1, x1.1, x2.1]
  unfold upI
  by_cases ha : r < t
  · rw [decide_eq_true ha, decide_eq_true (show 0 < t by omega)]
    simp
    omega
  · rw [decide_eq_false ha]
    by_cases hb : 0 < t
    · rw [decide_eq_true hb]
      simp
      omega
    · rw [decide_eq_false hb]
      simp
      omega
theorem neg_row {v l h : Int} (h1 : -5000000000 ≤ l) (h2 : l ≤ v) (h3 : v ≤ h) (h4 : h ≤ 5000000000) : negE ⟨v, l, h, false⟩ = ⟨-v, -h, -l, false⟩ := by
  have fr : ∀ x : Int, -5000000000 ≤ x → x ≤ 5000000000 → frB x = true := fun x a b => frB_eq ⟨by omega, by omega⟩
  have tl : ∀ x : Int, -5000000000 ≤ x → x ≤ 5000000000 → fsB 0 x = true ∧ fsN 0 x = -x := fun x a b => by
    have := fs_told (a := 0) (b := x) (by decide) (fr x a b) (by rw [Int.zero_sub]; exact fr (-x) (by omega) (by omega))
    rwa [Int.zero_sub] at this
  have f0 : fineB (ptE 0 true) = true := by decide
  have fa : fineB ⟨v, l, h, false⟩ = true := fineB_iff.2 ⟨rfl, h2, h3, fr l h1 (by omega), fr h (by omega) h4⟩
  have e : prsX (ptE 0 true) ⟨v, l, h, false⟩ = [(0, h), (0, l)] := rfl
  have ok : okE bS (ptE 0 true) ⟨v, l, h, false⟩ (prsX (ptE 0 true) ⟨v, l, h, false⟩) = true := okE_iff.2 ⟨(tl v (by omega) (by omega)).1, f0, fa, by
    rw [e]
    unfold okF bS
    simp [(tl h (by omega) h4).1, (tl l h1 (by omega)).1]⟩
  unfold negE subE
  rw [told_ok (N := nS) ok, e]
  show (⟨fsN 0 v, lowF nS [(0, h), (0, l)], highF nS [(0, h), (0, l)], false⟩ : En) = _
  unfold lowF highF nS
  simp only [List.foldl_cons, List.foldl_nil, (tl v (by omega) (by omega)).2, (tl h (by omega) h4).2, (tl l h1 (by omega)).2]
  congr 1
  · omega
  · omega
/-- With its signs set: a fold's one number. -/
theorem row_signs {D : Int} (h1 : 1 ≤ D) (h2 : D ≤ 80000) (b : Bool) : ∃ v l h : Int, rootE (itN D) = ⟨v, l, h, false⟩ ∧ 1 ≤ l ∧ l ≤ v ∧ v ≤ h ∧ h ≤ 5000000000 ∧
    (if lowN (if b = true then rootE (itN D) else negE (rootE (itN D))) = true then negE (if b = true then rootE (itN D) else negE (rootE (itN D))) else (if b = true then rootE (itN D) else negE (rootE (itN D)))) = rootE (itN D) := by
  obtain ⟨v, l, h, e, a1, a2, a3, a4⟩ := root_row h1 h2
  refine ⟨v, l, h, e, a1, a2, a3, a4, ?_⟩
  rw [e]
  have lv : ∀ x y z : Int, lowN ⟨x, y, z, false⟩ = decide (x < 0) := fun x y z => by
    unfold lowN
    show decide (cmpI x 0 < 0) = decide (x < 0)
    unfold cmpI
    congr 1
    refine propext ?_
    split
    · constructor <;> intro _ <;> omega
    · split <;> constructor <;> intro h <;> omega
  cases b
  · simp only [Bool.false_eq_true, if_false]
    rw [neg_row (by omega) a2 a3 a4, lv, if_pos (by simp; omega), neg_row (by omega) (by omega) (by omega) (by omega), Int.neg_neg, Int.neg_neg, Int.neg_neg]
  · simp only [if_true]
    rw [lv, if_neg (by simp; omega)]
/-- Its square encloses the number, if it is told. -/
theorem row_square {D : Int} (h1 : 1 ≤ D) (h2 : D ≤ 80000) (hb : (mulE (rootE (itN D)) (rootE (itN D))).bad = false) : Enq (mulE (rootE (itN D)) (rootE (itN D))) D 1 := by
  obtain ⟨v, l, h, e, _⟩ := root_row h1 h2
  have hw : Wn D := ⟨by omega, by omega⟩
  have hD : EncQ (itN D) (D : Rat) := by
    have := encQ_whole D
    rwa [show wholeN D = itN D from ofN_it hw] at this
  obtain ⟨z, _, z1, z2, z3⟩ := encQ_root (e := epsH) hD (by rw [e]) (by unfold epsH; grind)
  refine fold_sq_int (encQ_mul z1 z1) hb ?_
  unfold NearH delH
  unfold epsH at z3
  constructor <;> grind
end Go.Proofs.YtlbmkjicbkfmjaaGreat
