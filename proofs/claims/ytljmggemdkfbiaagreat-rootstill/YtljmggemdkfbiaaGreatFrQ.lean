/- What is told of fractions, as rational numbers: where what is told may be one, so may all that it came of, and it is the rational sum, product .. Mathematics alone. -/
import Derived.Test.YtljmggemdkfbiaaGreatFrN
import Derived.Test.YtljmggemdkfbiaaGreatVeHF
import Derived.Test.YtljmggemdkfbiaaGreatVeM
namespace Go.Proofs.YtljmggemdkfbiaaGreat
open Go.RowKit
set_option linter.unusedSimpArgs false
set_option linter.unusedVariables false

theorem wrong_nf : fineR wrongR = false := rfl
theorem ofQ_q {q : Rat} (h : fineR (ofQ q) = true) : toQ (ofQ q) = q := toQ_ofQ (by rw [← ofQ_fine]; exact h)
theorem add_q {a b : Fr} (h : fineR (addR a b) = true) : fineR a = true ∧ fineR b = true ∧ toQ (addR a b) = toQ a + toQ b := by
  cases ha : fineR a
  · unfold addR at h; rw [ha] at h; cases h
  cases hb : fineR b
  · unfold addR at h; rw [ha, hb] at h; cases h
  rw [addR_fine ha hb] at h ⊢
  exact ⟨rfl, rfl, ofQ_q h⟩
theorem sub_q {a b : Fr} (h : fineR (subR a b) = true) : fineR a = true ∧ fineR b = true ∧ toQ (subR a b) = toQ a - toQ b := by
  cases ha : fineR a
  · unfold subR at h; rw [ha] at h; cases h
  cases hb : fineR b
  · unfold subR at h; rw [ha, hb] at h; cases h
  rw [subR_fine ha hb] at h ⊢
  exact ⟨rfl, rfl, ofQ_q h⟩
theorem mul_q {a b : Fr} (h : fineR (mulR a b) = true) : fineR a = true ∧ fineR b = true ∧ toQ (mulR a b) = toQ a * toQ b := by
  cases ha : fineR a
  · unfold mulR at h; rw [ha] at h; cases h
  cases hb : fineR b
  · unfold mulR at h; rw [ha, hb] at h; cases h
  rw [mulR_fine ha hb] at h ⊢
  exact ⟨rfl, rfl, ofQ_q h⟩
theorem div_q {a b : Fr} (h : fineR (divR a b) = true) : fineR a = true ∧ fineR b = true ∧ toQ b ≠ 0 ∧ toQ (divR a b) = toQ a / toQ b := by
  cases ha : fineR a
  · unfold divR at h; rw [ha] at h; cases h
  cases hb : fineR b
  · unfold divR at h; rw [ha, hb] at h; cases h
  by_cases h0 : b.n = 0
  · unfold divR at h; rw [ha, hb, show decide (b.n ≠ 0) = false by simp [h0]] at h; cases h
  rw [divR_fine ha hb h0] at h ⊢
  exact ⟨rfl, rfl, toQ_ne hb h0, ofQ_q h⟩
/-- What a quotient is multiplied by undoes it. -/
theorem div_mul_q {a b : Fr} (h : fineR (divR a b) = true) : toQ (divR a b) * toQ b = toQ a := by
  obtain ⟨_, _, h0, e⟩ := div_q h
  rw [e, Rat.div_def, Rat.mul_assoc, Rat.inv_mul_cancel _ h0, Rat.mul_one]
theorem root_q {a : Fr} (h : fineR (rootR a) = true) : fineR a = true ∧ toQ (rootR a) * toQ (rootR a) = toQ a ∧ 0 ≤ (rootR a).n := by
  cases ha : fineR a
  · unfold rootR at h; rw [ha] at h; cases h
  unfold rootR at h ⊢
  rw [ha, if_pos rfl] at h ⊢
  cases he : eqR (mulR (tryR a) (tryR a)) a
  · rw [he, if_neg (by simp)] at h; cases h
  rw [he, if_pos rfl] at h
  rw [if_pos rfl]
  have e := eqR_iff.1 he
  have q := (mul_q (a := tryR a) (b := tryR a) (by rw [e]; exact ha)).2.2
  rw [e] at q
  exact ⟨rfl, q.symm, (flR_le (fineR_iff.1 ha).2.2.2.2.1).1⟩
/-- The sum of rational numbers. -/
def sumQ : List Rat → Rat
  | [] => 0
  | x :: xs => x + sumQ xs
theorem sumQ_append : ∀ (xs ys : List Rat), sumQ (xs ++ ys) = sumQ xs + sumQ ys
  | [], ys => by simp [sumQ, Rat.zero_add]
  | x :: xs, ys => by simp only [List.cons_append, sumQ]; rw [sumQ_append xs ys, Rat.add_assoc]
theorem fold_q : ∀ (xs : List Fr) (a : Fr), fineR (xs.foldl addR a) = true → fineR a = true ∧ (∀ x ∈ xs, fineR x = true) ∧ toQ (xs.foldl addR a) = toQ a + sumQ (xs.map toQ)
  | [], a, h => ⟨h, fun x hx => by simp at hx, by simp [sumQ, Rat.add_zero]⟩
  | y :: xs, a, h => by
    simp only [List.foldl_cons] at h ⊢
    obtain ⟨h1, h2, h3⟩ := fold_q xs (addR a y) h
    obtain ⟨g1, g2, g3⟩ := add_q h1
    refine ⟨g1, fun x hx => ?_, ?_⟩
    · rcases List.mem_cons.1 hx with rfl | hx
      · exact g2
      · exact h2 x hx
    · rw [h3, g3, List.map_cons, sumQ, Rat.add_assoc]
theorem new0_q : toQ (newR 0 1) = 0 := by
  rw [new_it (n := 0) ⟨by omega, by omega⟩]
  exact Rat.zero_divInt _
theorem sum_q {xs : List Fr} (h : fineR (sumF xs) = true) : (∀ x ∈ xs, fineR x = true) ∧ toQ (sumF xs) = sumQ (xs.map toQ) := by
  obtain ⟨_, h2, h3⟩ := fold_q xs _ h
  refine ⟨h2, ?_⟩
  rw [show sumF xs = xs.foldl addR (newR 0 1) from rfl, h3, new0_q, Rat.zero_add]
/-- The dot of rational numbers. -/
def dotQ (xs ys : List Rat) : Rat := sumQ (List.zipWith (· * ·) xs ys)
theorem muls_q : ∀ {xs ys : List Fr}, (∀ z ∈ List.zipWith mulR xs ys, fineR z = true) → (List.zipWith mulR xs ys).map toQ = List.zipWith (· * ·) (xs.map toQ) (ys.map toQ)
  | [], _, _ => by simp
  | _ :: _, [], _ => by simp
  | x :: xs, y :: ys, h => by
    simp only [List.zipWith_cons_cons, List.map_cons]
    rw [(mul_q (h (mulR x y) (by simp))).2.2, muls_q fun z hz => h z (by simp only [List.zipWith_cons_cons]; exact List.mem_cons_of_mem _ hz)]
theorem dot_q {xs ys : List Fr} (h : fineR (dotF xs ys) = true) : (∀ z ∈ List.zipWith mulR xs ys, fineR z = true) ∧ toQ (dotF xs ys) = dotQ (xs.map toQ) (ys.map toQ) := by
  obtain ⟨h1, h2⟩ := sum_q h
  refine ⟨h1, ?_⟩
  rw [show dotF xs ys = sumF (List.zipWith mulR xs ys) from rfl, h2, muls_q h1]
  rfl
theorem dotQ_snoc {xs ys : List Rat} (h : xs.length = ys.length) (x y : Rat) : dotQ (xs ++ [x]) (ys ++ [y]) = dotQ xs ys + x * y := by
  unfold dotQ
  rw [List.zipWith_append h, sumQ_append]
  simp [sumQ, Rat.add_zero]
theorem toQ_whole (n : Int) : toQ ⟨n, 1, false⟩ = (n : Rat) := by
  unfold toQ
  first | exact (Rat.intCast_eq_divInt n).symm | simp [Rat.divInt, Rat.mkRat_one] | exact (Rat.mkRat_one n)
/-- Fractions that are the same rational number are the same. -/
theorem fr_eq {a b : Fr} (ha : fineR a = true) (hb : fineR b = true) (h : toQ a = toQ b) : a = b := toQ_inj ha hb h
end Go.Proofs.YtljmggemdkfbiaaGreat
