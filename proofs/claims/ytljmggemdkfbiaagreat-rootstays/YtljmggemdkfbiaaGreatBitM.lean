/- Plain arithmetic of rows of bits. -/
import Derived.WalkKit
namespace Go.Proofs.YtljmggemdkfbiaaGreat

/-- The number of a row of bits, the lowest first. -/
def bval : List Int → Int
  | [] => 0
  | x :: r => x + 2 * bval r
/-- Each is 0 or 1. -/
def AllBits (xs : List Int) : Prop := ∀ x ∈ xs, x = 0 ∨ x = 1

theorem bval_snoc (xs : List Int) (x : Int) : bval (xs ++ [x]) = bval xs + 2 ^ xs.length * x := by
  induction xs with
  | nil => simp [bval]
  | cons y r ih =>
    show y + 2 * bval (r ++ [x]) = y + 2 * bval r + 2 ^ (r.length + 1) * x
    rw [ih, Int.mul_add, Int.pow_succ, Int.mul_comm (2 ^ r.length) 2, Int.mul_assoc, Int.add_assoc]
theorem bval_append (xs ys : List Int) : bval (xs ++ ys) = bval xs + 2 ^ xs.length * bval ys := by
  induction xs with
  | nil => simp [bval]
  | cons y r ih =>
    show y + 2 * bval (r ++ ys) = y + 2 * bval r + 2 ^ (r.length + 1) * bval ys
    rw [ih, Int.mul_add, Int.pow_succ, Int.mul_comm (2 ^ r.length) 2, Int.mul_assoc, Int.add_assoc]
theorem AllBits.tail {x : Int} {r : List Int} (h : AllBits (x :: r)) : AllBits r := fun y hy => h y (List.mem_cons_of_mem _ hy)
theorem bval_bd (xs : List Int) (h : AllBits xs) : 0 ≤ bval xs ∧ bval xs < 2 ^ xs.length := by
  induction xs with
  | nil => simp [bval]
  | cons y r ih =>
    obtain ⟨h1, h2⟩ := ih h.tail
    have hy := h y (List.mem_cons_self ..)
    show 0 ≤ y + 2 * bval r ∧ y + 2 * bval r < 2 ^ (r.length + 1)
    rw [Int.pow_succ]
    omega
theorem AllBits.snoc {xs : List Int} (h : AllBits xs) {x : Int} (hx : x = 0 ∨ x = 1) : AllBits (xs ++ [x]) := by
  intro y hy
  rcases List.mem_append.1 hy with k | k
  · exact h y k
  · rw [List.mem_singleton.1 k]; exact hx
theorem AllBits.take {xs : List Int} (h : AllBits xs) (k : Nat) : AllBits (xs.take k) := fun y hy => h y (List.mem_of_mem_take hy)
theorem AllBits.drop {xs : List Int} (h : AllBits xs) (k : Nat) : AllBits (xs.drop k) := fun y hy => h y (List.mem_of_mem_drop hy)
theorem AllBits.getD {xs : List Int} (h : AllBits xs) (k : Nat) : xs.getD k 0 = 0 ∨ xs.getD k 0 = 1 := by
  rw [List.getD_eq_getElem?_getD]
  cases e : xs[k]? with
  | none => simp
  | some y => simpa using h y (List.mem_of_getElem? e)
theorem bval_take_succ (xs : List Int) (k : Nat) (h : k < xs.length) : bval (xs.take (k + 1)) = bval (xs.take k) + 2 ^ k * xs.getD k 0 := by
  rw [List.take_succ_eq_append_getElem h, bval_snoc, List.length_take, Nat.min_eq_left (by omega), List.getD_eq_getElem?_getD, List.getElem?_eq_getElem h]
  rfl
theorem bval_drop_succ (xs : List Int) (k : Nat) (h : k < xs.length) : bval (xs.drop k) = xs.getD k 0 + 2 * bval (xs.drop (k + 1)) := by
  rw [List.drop_eq_getElem_cons h, List.getD_eq_getElem?_getD, List.getElem?_eq_getElem h]
  rfl
theorem bval_split (xs : List Int) (k : Nat) (h : k ≤ xs.length) : bval xs = bval (xs.take k) + 2 ^ k * bval (xs.drop k) := by
  have := bval_append (xs.take k) (xs.drop k)
  rw [List.take_append_drop, List.length_take, Nat.min_eq_left h] at this
  exact this
theorem pow_pos2 (k : Nat) : (0 : Int) < 2 ^ k := Int.pow_pos (by decide)

/-- One round of Bits. -/
theorem bits_step (xs : List Int) (n c : Int) (h : bval xs + 2 ^ xs.length * c = n) : bval (xs ++ [c % 2]) + 2 ^ (xs.length + 1) * (c / 2) = n := by
  rw [bval_snoc, Int.pow_succ, ← h, Int.add_assoc, Int.mul_assoc, ← Int.mul_add]
  congr 2
  omega
/-- Two numbers by their highest bit that parts them. -/
theorem less_at (xs ys : List Int) (hx : AllBits xs) (hy : AllBits ys) (k : Nat) (lx : xs.length = 130) (ly : ys.length = 130) (hk : k < 130)
    (e : bval (xs.drop (k + 1)) = bval (ys.drop (k + 1))) (h : xs.getD k 0 ≠ ys.getD k 0) : decide (xs.getD k 0 < ys.getD k 0) = decide (bval xs < bval ys) := by
  have a := bval_split xs (k + 1) (by omega)
  have b := bval_split ys (k + 1) (by omega)
  rw [bval_take_succ xs k (by omega)] at a
  rw [bval_take_succ ys k (by omega), ← e] at b
  have c := bval_bd _ (hx.take k)
  have d := bval_bd _ (hy.take k)
  rw [List.length_take, Nat.min_eq_left (by omega)] at c d
  generalize bval (xs.take k) = p at *
  generalize bval (ys.take k) = q at *
  generalize bval (xs.drop (k + 1)) = t at *
  generalize (2 : Int) ^ (k + 1) * t = u at *
  generalize (2 : Int) ^ k = P at *
  rcases hx.getD k with x | x <;> rcases hy.getD k with y | y <;> rw [x, y] at h ⊢ <;> rw [x] at a <;> rw [y] at b
  · exact absurd rfl h
  · simp at a b; rw [a, b]; simp; omega
  · simp at a b; rw [a, b]; simp; omega
  · exact absurd rfl h
end Go.Proofs.YtljmggemdkfbiaaGreat
