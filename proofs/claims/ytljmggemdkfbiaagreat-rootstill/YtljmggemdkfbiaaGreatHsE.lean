/- A fold of enclosed numbers encloses that of fractions, with the same signs; a triangle of whole numbers folds to itself (layer 8, HouseTwice). Mathematics alone. -/
import Derived.Test.YtljmggemdkfbiaaGreatKdn
import Derived.Test.YtljmggemdkfbiaaGreatHsQ
import Derived.Test.YtljmggemdkfbiaaGreatEnJ
import Derived.Test.YtljmggemdkfbiaaGreatEn4
import Derived.Test.YtljmggemdkfbiaaGreatTrM
namespace Go.Proofs.YtljmggemdkfbiaaGreat
open Go.RowKit
set_option linter.unusedSimpArgs false
set_option linter.unusedVariables false

/-- Enclosed numbers, as a kind. -/
theorem encF_neg {a : En} {f : Fr} (h : EncF a f) : EncF (negE a) (negR f) := by
  refine encF_sub (a := ptE 0 true) (f := zR) ?_ h
  have := encF_whole 0
  intro _
  exact .inr ⟨by decide, by constructor <;> decide⟩
theorem encL_tail {m k : Nat} {f : Nat → En} {g : Nat → Fr} (h : ∀ c, k ≤ c → c < m → EncF (f c) (g c)) : EncL (tailH m k f) (tailH m k g) := by
  refine encL_of (by unfold tailH; simp) fun j e g' h1 h2 => ?_
  have hj : j < m - k := by have := (List.getElem?_eq_some_iff.1 h1).1; unfold tailH at this; simpa using this
  unfold tailH at h1 h2
  rw [List.getElem?_map, List.getElem?_range hj] at h1 h2
  cases h1
  cases h2
  exact h _ (by omega) (by omega)
theorem foldTo_enc {n m : Nat} (hnm : n ≤ m) (σ : Nat → Bool) {a : Nat → Nat → En} {f : Nat → Nat → Fr} (h : ∀ i j, i < n → j < m → EncF (a i j) (f i j)) :
    ∀ k, k ≤ n → ∀ i j, i < n → j < m → EncF (foldTo kdN m σ a k i j) (foldTo kdF m σ f k i j)
  | 0, _, i, j, hi, hj => h i j hi hj
  | k + 1, hk, i, j, hi, hj => by
    obtain ⟨A, hA⟩ : ∃ A, A = foldTo kdN m σ a k := ⟨_, rfl⟩
    obtain ⟨B, hB⟩ : ∃ B, B = foldTo kdF m σ f k := ⟨_, rfl⟩
    show EncF (foldStep kdN m k (σ k) (foldTo kdN m σ a k) i j) (foldStep kdF m k (σ k) (foldTo kdF m σ f k) i j)
    rw [← hA, ← hB]
    have ih : ∀ i j, i < n → j < m → EncF (A i j) (B i j) := by rw [hA, hB]; exact foldTo_enc hnm σ h k (by omega)
    have row : ∀ i, i < n → EncL (tailH m k (A i)) (tailH m k (B i)) := fun i hi => encL_tail fun c _ hc => ih i c hi hc
    have hp : EncF (pH kdN m k (σ k) A) (pH kdF m k (σ k) B) := by
      have hr := encF_root (encF_dot (row k (by omega)) (row k (by omega)))
      unfold pH
      by_cases hb : σ k = true
      · rw [if_pos hb, if_pos hb]; exact hr
      · rw [if_neg hb, if_neg hb]; exact encF_neg hr
    have hv : ∀ c, k ≤ c → c < m → EncF (vH kdN m k (σ k) A c) (vH kdF m k (σ k) B c) := fun c h1 h2 => by
      unfold vH
      by_cases hc : c = k
      · rw [if_pos hc, if_pos hc]; exact encF_sub (ih k k (by omega) (by omega)) hp
      · rw [if_neg hc, if_neg hc]; exact ih k c (by omega) h2
    have hvl := encL_tail hv
    unfold foldStep
    by_cases h1 : i = k
    · rw [if_pos h1, if_pos h1]
      by_cases h2 : j = k
      · rw [if_pos h2, if_pos h2]; exact hp
      · rw [if_neg h2, if_neg h2]
        by_cases h3 : k < j
        · rw [if_pos h3, if_pos h3]; exact encF_whole 0
        · rw [if_neg h3, if_neg h3]; exact ih i j hi hj
    · rw [if_neg h1, if_neg h1]
      by_cases h2 : k < i ∧ k ≤ j
      · rw [if_pos h2, if_pos h2]
        have hd := encF_dot (row i hi) hvl
        exact encF_sub (ih i j hi hj) (encF_mul (hv j h2.2 hj) (encF_div (encF_add hd hd) (encF_dot hvl hvl)))
      · rw [if_neg h2, if_neg h2]; exact ih i j hi hj
theorem foldH_enc {n m : Nat} (hnm : n ≤ m) (σ τ : Nat → Bool) {a : Nat → Nat → En} {f : Nat → Nat → Fr} (h : ∀ i j, i < n → j < m → EncF (a i j) (f i j)) {i j : Nat} (hi : i < n) (hj : j < n) :
    EncF (foldH kdN n m σ τ a i j) (foldH kdF n m σ τ f i j) := by
  have e := foldTo_enc hnm σ h n (Nat.le_refl _) i j hi (by omega)
  unfold foldH signsH
  by_cases h1 : i < j
  · rw [if_pos h1, if_pos h1]; exact encF_whole 0
  · rw [if_neg h1, if_neg h1]
    by_cases h2 : j ≤ i ∧ τ j = true
    · rw [if_pos h2, if_pos h2]; exact encF_neg e
    · rw [if_neg h2, if_neg h2]; exact e
end Go.Proofs.YtljmggemdkfbiaaGreat
