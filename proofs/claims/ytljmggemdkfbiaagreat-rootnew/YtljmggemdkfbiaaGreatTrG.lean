/- Root, as the program fills it, number by number, is the document's, column by column; of a square of whole numbers (layer 7). -/
import Derived.Test.YtljmggemdkfbiaaGreatTrM
import Derived.Test.YtljmggemdkfbiaaGreatTrRF
import Derived.Test.YtljmggemdkfbiaaGreatTrL
namespace Go.Proofs.YtljmggemdkfbiaaGreat
open Go.RowKit
set_option linter.unusedSimpArgs false
set_option linter.unusedVariables false

/-- What Root tells of a place, of what it is so far, of any kind of numbers. -/
def rootVG {α : Type} (sub div : α → α → α) (root : α → α) (dot : List α → List α → α) (P g : Nat → Nat → α) (i k : Nat) : α :=
  if i = k then root (sub (P i k) (dot (rowM k g i) (rowM k g k))) else div (sub (P i k) (dot (rowM k g i) (rowM k g k))) (g k k)
theorem rowM_congr7 {α : Type} {k i : Nat} {f g : Nat → Nat → α} (h : ∀ j, j < k → f i j = g i j) : rowM k f i = rowM k g i :=
  List.map_congr_left fun j hj => h j (by simpa using hj)
theorem rootStep_congr {α : Type} {sub div : α → α → α} {root : α → α} {dot : List α → List α → α} {P G H : Nat → Nat → α} {k i j : Nat} (h1 : ∀ j, G i j = H i j) (h2 : ∀ j, G k j = H k j) :
    rootStep sub div root dot P G k i j = rootStep sub div root dot P H k i j := by
  unfold rootStep
  rw [rowM_congr7 (fun j _ => h1 j), rowM_congr7 (fun j _ => h2 j), h1 j]
theorem colT_root {α : Type} (sub div : α → α → α) (root : α → α) (dot : List α → List α → α) (P G : Nat → Nat → α) (k : Nat) :
    ∀ m a b, colT (rootVG sub div root dot P) k G m a b = if b = k ∧ k ≤ a ∧ a < k + m then rootStep sub div root dot P G k a b else G a b
  | 0, a, b => by rw [if_neg (by omega)]; rfl
  | m + 1, a, b => by
    have ih := colT_root sub div root dot P G k m
    show putM _ _ _ _ a b = _
    unfold putM
    by_cases h : a = k + m ∧ b = k
    · rw [if_pos h, if_pos (by omega)]
      obtain ⟨rfl, rfl⟩ := h
      have hr : ∀ i, rowM b (colT (rootVG sub div root dot P) b G m) i = rowM b G i := fun i => rowM_congr7 fun j hj => by rw [ih, if_neg (by omega)]
      have hbb := ih b b
      generalize colT (rootVG sub div root dot P) b G m = H at *
      unfold rootVG
      rw [hr, hr]
      unfold rootStep
      rw [if_pos (by omega : b = b ∧ b ≤ b + m)]
      by_cases hm : b + m = b
      · rw [if_pos hm, if_pos hm, hm]
      · rw [if_neg hm, if_neg hm]
        congr 1
        rw [if_pos (by omega)] at hbb
        rw [hbb]
        unfold rootStep
        rw [if_pos (by omega), if_pos rfl]
    · rw [if_neg h, ih]
      by_cases h2 : b = k ∧ k ≤ a ∧ a < k + m
      · rw [if_pos h2, if_pos (by omega)]
      · rw [if_neg h2, if_neg (by omega)]
theorem triT_root {α : Type} (sub div : α → α → α) (root : α → α) (dot : List α → List α → α) (z : α) (P : Nat → Nat → α) (n : Nat) :
    ∀ k, k ≤ n → ∀ i j, i < n → triT (rootVG sub div root dot P) z n k i j = rootTo sub div root dot z P k i j
  | 0, _, i, j, _ => rfl
  | k + 1, hk, i, j, hi => by
    have ih := triT_root sub div root dot z P n k (by omega)
    show colT _ _ _ (n - k) i j = rootStep sub div root dot P (rootTo sub div root dot z P k) k i j
    rw [colT_root]
    by_cases h : j = k ∧ k ≤ i ∧ i < k + (n - k)
    · rw [if_pos h]
      exact rootStep_congr (fun j => ih i j hi) (fun j => ih k j (by omega))
    · rw [if_neg h, ih i j hi]
      unfold rootStep
      rw [if_neg (by omega)]
theorem rootVF_G : rootVF = rootVG subR divR rootR dotF := rfl
theorem clrI_low (f : Nat → Nat → Int) : Low 0 (clrI f) := fun i k h => by unfold clrI; rw [if_neg (by omega)]
theorem clrI_sm {A : Int} {n : Nat} {f : Nat → Nat → Int} (hA : 0 ≤ A) (h : Sm2 A n n f) : Sm2 A n n (clrI f) := fun i k hi hk => by
  unfold clrI
  split
  · exact h i k hi hk
  · omega
end Go.Proofs.YtljmggemdkfbiaaGreat
