/- What is solved of a lower triangle: enclosed numbers beside fractions; the triangle times it is what was asked (layer 7). Mathematics alone. -/
import Derived.Test.YtbfdkahbnfpabaaGreatTrN
namespace Go.Proofs.YtbfdkahbnfpabaaGreat
open Go.RowKit
set_option linter.unusedSimpArgs false
set_option linter.unusedVariables false

/-- The first numbers of what is solved. -/
def solveTo {α : Type} (sub div : α → α → α) (dot : List α → List α → α) (s : Nat → Nat → α) (b : Nat → α) : Nat → List α
  | 0 => []
  | i + 1 => solveTo sub div dot s b i ++ [div (sub (b i) (dot (rowM i s i) (solveTo sub div dot s b i))) (s i i)]
/-- One of them. -/
def solveAt {α : Type} (sub div : α → α → α) (dot : List α → List α → α) (s : Nat → Nat → α) (b : Nat → α) (i : Nat) : α := div (sub (b i) (dot (rowM i s i) (solveTo sub div dot s b i))) (s i i)
theorem solveTo_map {α : Type} (sub div : α → α → α) (dot : List α → List α → α) (s : Nat → Nat → α) (b : Nat → α) : ∀ n, solveTo sub div dot s b n = (List.range n).map (solveAt sub div dot s b)
  | 0 => rfl
  | n + 1 => by rw [List.range_succ, List.map_append, ← solveTo_map sub div dot s b n]; rfl
theorem solveTo_len {α : Type} (sub div : α → α → α) (dot : List α → List α → α) (s : Nat → Nat → α) (b : Nat → α) (n : Nat) : (solveTo sub div dot s b n).length = n := by rw [solveTo_map]; simp
theorem solveTo_get {α : Type} (sub div : α → α → α) (dot : List α → List α → α) (s : Nat → Nat → α) (b : Nat → α) {n k : Nat} (h : k < n) : (solveTo sub div dot s b n)[k]? = some (solveAt sub div dot s b k) := by rw [solveTo_map]; simp [h]
/-- What is solved of enclosed numbers encloses what is solved of the fractions. -/
theorem solveTo_enc {n : Nat} {s : Nat → Nat → En} {f : Nat → Nat → Fr} {b : Nat → En} {c : Nat → Fr} (hs : ∀ i j, i < n → j < n → EncF (s i j) (f i j)) (hb : ∀ i, i < n → EncF (b i) (c i)) :
    ∀ k, k ≤ n → EncL (solveTo subE divE dotN s b k) (solveTo subR divR dotF f c k)
  | 0, _ => trivial
  | k + 1, hk => by
    have ih := solveTo_enc hs hb k (by omega)
    have hkn : k < n := by omega
    have hx := encF_div (encF_sub (hb k hkn) (encF_dot (encL_row (n := n) (k := k) (by omega) fun j hj => hs k j hkn hj) ih)) (hs k k hkn hkn)
    refine encL_of (by rw [solveTo_len, solveTo_len]) fun j e g h1 h2 => ?_
    have hj : j < k + 1 := by have := (List.getElem?_eq_some_iff.1 h1).1; rwa [solveTo_len] at this
    by_cases h : j = k
    · subst h
      rw [solveTo_get _ _ _ _ _ hj] at h1 h2
      cases h1
      cases h2
      exact hx
    · refine encL_get ih j e g ?_ ?_
      · rw [solveTo_get _ _ _ _ _ hj] at h1; rw [solveTo_get _ _ _ _ _ (by omega)]; exact h1
      · rw [solveTo_get _ _ _ _ _ hj] at h2; rw [solveTo_get _ _ _ _ _ (by omega)]; exact h2
/-- A dot whose first row ends at k. -/
theorem dotQ_cut {f g : Nat → Rat} {k : Nat} (h : ∀ j, k < j → f j = 0) : ∀ n, k < n → dotQ ((List.range n).map f) ((List.range n).map g) = dotQ ((List.range k).map f) ((List.range k).map g) + f k * g k
  | 0, hk => by omega
  | n + 1, hk => by
    rw [List.range_succ, List.map_append, List.map_append]
    simp only [List.map_cons, List.map_nil]
    rw [dotQ_snoc (by simp)]
    by_cases e : k = n
    · subst e; rfl
    · rw [dotQ_cut h n (by omega), h n (by omega), Rat.zero_mul, Rat.add_zero]
/-- The cleared triangle's row times what is solved, where that may be one, is what was asked. -/
theorem solve_back {n : Nat} {s c : Nat → Nat → Fr} {b : Nat → Fr} {k : Nat} (hk : k < n) (hc : ∀ j, j ≤ k → c k j = s k j) (hz : ∀ j, k < j → toQ (c k j) = 0) (hf : fineR (dotF (rowM n c k) (solveTo subR divR dotF s b n)) = true) :
    dotF (rowM n c k) (solveTo subR divR dotF s b n) = b k := by
  obtain ⟨hall, hq⟩ := dot_q hf
  have hx : fineR (solveAt subR divR dotF s b k) = true ∧ fineR (s k k) = true := by
    have hm : mulR (c k k) (solveAt subR divR dotF s b k) ∈ List.zipWith mulR (rowM n c k) (solveTo subR divR dotF s b n) := by
      refine List.mem_of_getElem? (i := k) ?_
      rw [List.getElem?_zipWith, rowM_get c k hk, solveTo_get _ _ _ _ _ hk]
    have := mul_q (hall _ hm)
    exact ⟨this.2.1, by rw [← hc k (Nat.le_refl _)]; exact this.1⟩
  have hmq := div_mul_q (a := subR (b k) (dotF (rowM k s k) (solveTo subR divR dotF s b k))) (b := s k k) hx.1
  obtain ⟨f1, f2, f3⟩ := sub_q (div_q (a := subR (b k) (dotF (rowM k s k) (solveTo subR divR dotF s b k))) (b := s k k) hx.1).1
  refine fr_eq hf f1 ?_
  rw [hq, show (rowM n c k).map toQ = (List.range n).map (fun j => toQ (c k j)) by unfold rowM; rw [List.map_map]; rfl,
    show (solveTo subR divR dotF s b n).map toQ = (List.range n).map (fun j => toQ (solveAt subR divR dotF s b j)) by rw [solveTo_map, List.map_map]; rfl,
    dotQ_cut (f := fun j => toQ (c k j)) hz n hk]
  have e1 : (List.range k).map (fun j => toQ (c k j)) = (rowM k s k).map toQ := by
    unfold rowM
    rw [List.map_map]
    refine List.map_congr_left fun j hj => ?_
    have hj' : j < k := by simpa using hj
    show toQ (c k j) = toQ (s k j)
    rw [hc j (by omega)]
  have e2 : (List.range k).map (fun j => toQ (solveAt subR divR dotF s b j)) = (solveTo subR divR dotF s b k).map toQ := by rw [solveTo_map, List.map_map]; rfl
  rw [e1, e2, ← (dot_q f2).2, hc k (Nat.le_refl _), Rat.mul_comm]
  rw [show toQ (solveAt subR divR dotF s b k) * toQ (s k k) = _ from hmq, f3, Rat.add_comm, Rat.sub_eq_add_neg, Rat.add_assoc, Rat.neg_add_cancel, Rat.add_zero]
end Go.Proofs.YtbfdkahbnfpabaaGreat
