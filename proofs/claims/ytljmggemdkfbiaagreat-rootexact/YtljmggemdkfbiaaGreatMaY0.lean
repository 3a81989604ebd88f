/- The unit, of whole numbers: mathematics (layer 6). -/
import Derived.Test.YtljmggemdkfbiaaGreatMaR
namespace Go.Proofs.YtljmggemdkfbiaaGreat
open Go.RowKit
set_option linter.unusedSimpArgs false
set_option linter.unusedVariables false

/-- The unit's number. -/
def unitI (i k : Nat) : Int := if i = k then 1 else 0
/-- The unit's number, as far as row j. -/
def unitTo (j i k : Nat) : Int := if i = k ∧ i < j then 1 else 0
theorem flatI_map (xs : List Int) : xs.flatMap cellsI = xs.map (fun x => (.int .i64 x : Value)) := by
  induction xs with
  | nil => rfl
  | cons x xs ih => rw [List.flatMap_cons, ih]; rfl
theorem idx_inj {m i k i' k' : Nat} (hk : k < m) (hk' : k' < m) (e : i * m + k = i' * m + k') : i = i' ∧ k = k' := by
  have h1 : (i * m + k) / m = i := by rw [Nat.mul_comm, Nat.mul_add_div (by omega), Nat.div_eq_of_lt hk]; omega
  have h2 : (i' * m + k') / m = i' := by rw [Nat.mul_comm, Nat.mul_add_div (by omega), Nat.div_eq_of_lt hk']; omega
  have h3 : i = i' := by rw [← h1, ← h2, e]
  subst h3
  exact ⟨rfl, by omega⟩
theorem unitTo_zero (m : Nat) : mk m m (unitTo 0) = List.replicate (m * m) 0 :=
  (mk_ext _ _ (by simp) fun i k hi hk => by simp [List.getElem?_replicate, mk_idx hi hk, unitTo]).symm
theorem unitTo_set {m j : Nat} (h : j < m) : (mk m m (unitTo j)).set (j * m + j) 1 = mk m m (unitTo (j + 1)) :=
  mk_ext _ _ (by rw [List.length_set, mk_len]) fun i k hi hk => by
    rw [List.getElem?_set]
    by_cases e : j * m + j = i * m + k
    · obtain ⟨rfl, rfl⟩ := idx_inj h hk e
      have := mk_idx h h
      rw [if_pos e, if_pos (by rw [mk_len]; exact this)]
      simp [unitTo]
    · rw [if_neg e, mk_get _ hi hk]
      have : ¬ (i = k ∧ i = j) := fun ⟨h1, h2⟩ => e (by subst h1; rw [h2])
      unfold unitTo
      by_cases h1 : i = k
      · have h2 : i ≠ j := fun h => this ⟨h1, h⟩
        by_cases h3 : i < j
        · rw [if_pos ⟨h1, h3⟩, if_pos ⟨h1, by omega⟩]
        · rw [if_neg (fun h => h3 h.2), if_neg (fun h => by omega)]
      · rw [if_neg (fun h => h1 h.1), if_neg (fun h => h1 h.1)]
theorem unitTo_all (m : Nat) : mk m m (unitTo m) = mk m m unitI := mk_congr fun i k hi hk => by simp [unitTo, unitI, hi]
theorem unitTo_cells (m j : Nat) (h : j < m) : ((mk m m (unitTo j)).flatMap cellsI).set (j * m + j) (.int .i64 1) = (mk m m (unitTo (j + 1))).flatMap cellsI := by
  rw [flatI_map, flatI_map, ← unitTo_set h, List.map_set]
theorem unit_made (m n : Nat) (hn : n = m * m) : (madeCells (Value.cells (.int .i64 0)) (n * 1)).toList = (mk m m (unitTo 0)).flatMap cellsI := by
  rw [unitTo_zero, flatI_map, Nat.mul_one, List.map_replicate, ← hn]
  exact toList_madeCells_one _ _
theorem mulI_unit_r (a : Nat → Nat → Int) (i : Nat) : ∀ M k, mulI M a unitI i k = if k < M then a i k else 0 := by
  intro M
  induction M with
  | zero => intro k; simp [mulI_zero]
  | succ M ih =>
    intro k
    rw [mulI_succ, ih]
    unfold unitI
    by_cases h : k < M
    · rw [if_pos h, if_neg (by omega), if_pos (by omega)]; omega
    · by_cases h2 : M = k
      · subst h2; rw [if_neg h, if_pos rfl, if_pos (by omega)]; omega
      · rw [if_neg h, if_neg h2, if_neg (by omega)]; omega
theorem mulI_mul_r (M : Nat) (a b c : Nat → Nat → Int) (N : Nat) (i k : Nat) : mulI N (mulI M a b) c i k = mulI M a (mulI N b c) i k := by
  induction M with
  | zero =>
    induction N with
    | zero => rfl
    | succ N ih => rw [mulI_succ, ih]; simp [mulI_zero]
  | succ M ih =>
    rw [mulI_succ, ← ih]
    clear ih
    induction N with
    | zero => simp [mulI_zero]
    | succ N ih2 => rw [mulI_succ, mulI_succ, mulI_succ, mulI_succ, ih2, Int.add_mul, Int.mul_add, Int.mul_assoc]; omega
theorem mulI_turn (M : Nat) (a b : Nat → Nat → Int) (i k : Nat) : mulI M (fun i k => b k i) (fun i k => a k i) i k = mulI M a b k i := by
  induction M with
  | zero => rfl
  | succ M ih => rw [mulI_succ, mulI_succ, ih, Int.mul_comm]
end Go.Proofs.YtljmggemdkfbiaaGreat
