/- The square of a root, of fractions (layer 7). Mathematics alone. -/
import Derived.Test.YtbfdkahbnfpabaaGreatTrM
import Derived.Test.YtbfdkahbnfpabaaGreatFrQ
namespace Go.Proofs.YtbfdkahbnfpabaaGreat
open Go.RowKit
set_option linter.unusedSimpArgs false
set_option linter.unusedVariables false

theorem rootTo_stable {α : Type} {sub div : α → α → α} {root : α → α} {dot : List α → List α → α} {z : α} {p : Nat → Nat → α} {i j k : Nat} (hj : j < k) : ∀ m, k ≤ m → rootTo sub div root dot z p m i j = rootTo sub div root dot z p k i j
  | 0, h => by omega
  | m + 1, h => by
    by_cases e : k = m + 1
    · rw [e]
    · rw [← rootTo_stable hj m (by omega)]
      show rootStep _ _ _ _ _ _ m i j = _
      unfold rootStep
      rw [if_neg (by omega)]
theorem rootTo_up {α : Type} {sub div : α → α → α} {root : α → α} {dot : List α → List α → α} {z : α} {p : Nat → Nat → α} {i j : Nat} (h : i < j) : ∀ m, rootTo sub div root dot z p m i j = z
  | 0 => rfl
  | m + 1 => by
    show rootStep _ _ _ _ _ _ m i j = _
    unfold rootStep
    rw [if_neg (by omega)]
    exact rootTo_up h m
theorem rootTo_row {α : Type} {sub div : α → α → α} {root : α → α} {dot : List α → List α → α} {z : α} {p : Nat → Nat → α} {i k n : Nat} (h : k ≤ n) : rowM k (rootTo sub div root dot z p k) i = rowM k (rootTo sub div root dot z p n) i :=
  rowM_congr fun j hj => (rootTo_stable hj n h).symm
/-- What stands in a root, by itself. -/
theorem rootTo_eq {α : Type} {sub div : α → α → α} {root : α → α} {dot : List α → List α → α} {z : α} {p : Nat → Nat → α} {n i k : Nat} (hk : k < n) (hi : k ≤ i) {s : Nat → Nat → α} (hs : s = rootTo sub div root dot z p n) :
    s i k = if i = k then root (sub (p k k) (dot (rowM k s k) (rowM k s k))) else div (sub (p i k) (dot (rowM k s i) (rowM k s k))) (s k k) := by
  have e : ∀ i, k ≤ i → s i k = if i = k then root (sub (p k k) (dot (rowM k s k) (rowM k s k))) else div (sub (p i k) (dot (rowM k s i) (rowM k s k))) (root (sub (p k k) (dot (rowM k s k) (rowM k s k)))) := fun i hi => by
    rw [show s i k = rootTo sub div root dot z p (k + 1) i k by rw [hs]; exact rootTo_stable (by omega) n (by omega)]
    show rootStep _ _ _ _ _ _ k i k = _
    unfold rootStep
    rw [if_pos ⟨rfl, hi⟩, rootTo_row (i := i) (show k ≤ n by omega), rootTo_row (i := k) (show k ≤ n by omega), ← hs]
  rw [e i hi]
  by_cases h : i = k
  · rw [if_pos h, if_pos h]
  · rw [if_neg h, if_neg h, e k (Nat.le_refl _), if_pos rfl]
/-- A dot whose second row ends at k. -/
theorem dotQ_low {s : Nat → Nat → Rat} {i k : Nat} (h : ∀ j, k < j → s k j = 0) : ∀ n, k < n → dotQ (rowM n s i) (rowM n s k) = dotQ (rowM k s i) (rowM k s k) + s i k * s k k
  | 0, hk => by omega
  | n + 1, hk => by
    rw [rowM_succ, rowM_succ, dotQ_snoc (by rw [rowM_len, rowM_len])]
    by_cases e : k = n
    · subst e; rfl
    · rw [dotQ_low h n (by omega), h n (by omega), Rat.mul_zero, Rat.add_zero]
theorem row_q (k : Nat) (s : Nat → Nat → Fr) (i : Nat) : (rowM k s i).map toQ = rowM k (fun i j => toQ (s i j)) i := by unfold rowM; rw [List.map_map]; rfl
theorem zip_mem {n : Nat} {s : Nat → Nat → Fr} {i k j : Nat} (hj : j < n) : mulR (s i j) (s k j) ∈ List.zipWith mulR (rowM n s i) (rowM n s k) := by
  refine List.mem_of_getElem? (i := j) ?_
  rw [List.getElem?_zipWith, rowM_get s i hj, rowM_get s k hj]
/-- The square of a root, where it may be one, is what it is the root of. -/
theorem root_square {n : Nat} {p s : Nat → Nat → Fr} {z : Fr} (hz : toQ z = 0) (hs : s = rootTo subR divR rootR dotF z p n) {i k : Nat} (hk : k < n) (hi : k ≤ i) (hf : fineR (dotF (rowM n s i) (rowM n s k)) = true) :
    dotF (rowM n s i) (rowM n s k) = p i k := by
  obtain ⟨hall, hq⟩ := dot_q hf
  have hup : ∀ j, k < j → toQ (s k j) = 0 := fun j hj => by rw [hs, rootTo_up hj n]; exact hz
  rw [row_q, row_q, dotQ_low (s := fun i j => toQ (s i j)) hup n hk] at hq
  have hm := mul_q (hall _ (zip_mem (i := i) (k := k) hk))
  have e := rootTo_eq hk hi hs
  have ek := rootTo_eq hk (Nat.le_refl k) hs
  rw [if_pos rfl] at ek
  by_cases h : i = k
  · subst h
    have hr := root_q (a := subR (p i i) (dotF (rowM i s i) (rowM i s i))) (by rw [← ek]; exact hm.1)
    rw [← ek] at hr
    obtain ⟨f1, f2, f3⟩ := sub_q hr.1
    refine fr_eq hf f1 ?_
    rw [hq, hr.2.1, f3, (dot_q f2).2, row_q, Rat.add_comm, Rat.sub_eq_add_neg, Rat.add_assoc, Rat.neg_add_cancel, Rat.add_zero]
  · rw [if_neg h] at e
    have hdv : fineR (divR (subR (p i k) (dotF (rowM k s i) (rowM k s k))) (s k k)) = true := by rw [← e]; exact hm.1
    have hmq := div_mul_q hdv
    rw [← e] at hmq
    obtain ⟨f1, f2, f3⟩ := sub_q (div_q hdv).1
    refine fr_eq hf f1 ?_
    rw [hq, hmq, f3, (dot_q f2).2, row_q, row_q, Rat.add_comm, Rat.sub_eq_add_neg, Rat.add_assoc, Rat.neg_add_cancel, Rat.add_zero]
end Go.Proofs.YtbfdkahbnfpabaaGreat
