/- A fold (layer 8), step by step, of any kind of numbers; where its triangle is fine, its square is the square of what was folded, in fractions. Mathematics alone. -/
import Derived.Test.YtljmggemdkfbiaaGreatFrQ
import Derived.Test.YtljmggemdkfbiaaGreatFr5
namespace Go.Proofs.YtljmggemdkfbiaaGreat
open Go.RowKit
set_option linter.unusedSimpArgs false
set_option linter.unusedVariables false

/-- What is done with numbers of a kind. -/
structure Kd (α : Type) where
  z : α
  add : α → α → α
  sub : α → α → α
  mul : α → α → α
  div : α → α → α
  root : α → α
  neg : α → α
  dot : List α → List α → α
/-- A row from column k on. -/
def tailH {α : Type} (m k : Nat) (f : Nat → α) : List α := (List.range (m - k)).map fun j => f (k + j)
/-- What stands on the diagonal behind step k: b tells whether the first number was below 0. -/
def pH {α : Type} (K : Kd α) (m k : Nat) (b : Bool) (a : Nat → Nat → α) : α :=
  if b = true then K.root (K.dot (tailH m k (a k)) (tailH m k (a k))) else K.neg (K.root (K.dot (tailH m k (a k)) (tailH m k (a k))))
/-- The row by which is folded, by its columns. -/
def vH {α : Type} (K : Kd α) (m k : Nat) (b : Bool) (a : Nat → Nat → α) (j : Nat) : α := if j = k then K.sub (a k k) (pH K m k b a) else a k j
def tH {α : Type} (K : Kd α) (m k : Nat) (b : Bool) (a : Nat → Nat → α) (i : Nat) : α :=
  K.div (K.add (K.dot (tailH m k (a i)) (tailH m k (vH K m k b a))) (K.dot (tailH m k (a i)) (tailH m k (vH K m k b a)))) (K.dot (tailH m k (vH K m k b a)) (tailH m k (vH K m k b a)))
def foldStep {α : Type} (K : Kd α) (m k : Nat) (b : Bool) (a : Nat → Nat → α) (i j : Nat) : α :=
  if i = k then (if j = k then pH K m k b a else if k < j then K.z else a i j)
  else if k < i ∧ k ≤ j then K.sub (a i j) (K.mul (vH K m k b a j) (tH K m k b a i)) else a i j
/-- The first steps, with signs that are told ahead. -/
def foldTo {α : Type} (K : Kd α) (m : Nat) (σ : Nat → Bool) (a : Nat → Nat → α) : Nat → Nat → Nat → α
  | 0 => a
  | k + 1 => foldStep K m k (σ k) (foldTo K m σ a k)
/-- With the signs that there are: low tells whether a number is below 0. -/
def foldL {α : Type} (K : Kd α) (low : α → Bool) (m : Nat) (a : Nat → Nat → α) : Nat → Nat → Nat → α
  | 0 => a
  | k + 1 => foldStep K m k (low (foldL K low m a k k k)) (foldL K low m a k)
theorem foldL_to {α : Type} (K : Kd α) (low : α → Bool) (m : Nat) (a : Nat → Nat → α) : ∀ k, foldL K low m a k = foldTo K m (fun k => low (foldL K low m a k k k)) a k
  | 0 => rfl
  | k + 1 => by
    show foldStep K m k (low (foldL K low m a k k k)) (foldL K low m a k) = foldStep K m k (low (foldL K low m a k k k)) (foldTo K m (fun k => low (foldL K low m a k k k)) a k)
    rw [← foldL_to K low m a k]
/-- The triangle at the end, of a square with signs. -/
def signsH {α : Type} (K : Kd α) (τ : Nat → Bool) (a : Nat → Nat → α) (i j : Nat) : α := if j ≤ i ∧ τ j = true then K.neg (a i j) else a i j
def foldH {α : Type} (K : Kd α) (n m : Nat) (σ τ : Nat → Bool) (a : Nat → Nat → α) (i j : Nat) : α := if i < j then K.z else signsH K τ (foldTo K m σ a n) i j
/-- A row that has been gone by stays. -/
theorem foldTo_stays {α : Type} (K : Kd α) (m : Nat) (σ : Nat → Bool) (a : Nat → Nat → α) {i j k : Nat} (h : i < k ∨ (j < k ∧ j < i)) : ∀ d, foldTo K m σ a (k + d) i j = foldTo K m σ a k i j
  | 0 => rfl
  | d + 1 => by
    show foldStep K m (k + d) (σ (k + d)) (foldTo K m σ a (k + d)) i j = _
    have ih := foldTo_stays K m σ a h d
    unfold foldStep
    rcases h with h | ⟨h, h2⟩
    · rw [if_neg (by omega), if_neg (by omega), ih]
    · by_cases hi : i = k + d
      · rw [if_pos hi, if_neg (by omega), if_neg (by omega), ih]
      · rw [if_neg hi, if_neg (by omega), ih]
/-- Right of the diagonal there is z. -/
theorem foldTo_zero {α : Type} (K : Kd α) (m : Nat) (σ : Nat → Bool) (a : Nat → Nat → α) {i j k : Nat} (h : i < k) (hj : i < j) : foldTo K m σ a k i j = K.z := by
  obtain ⟨d, rfl⟩ := Nat.exists_eq_add_of_le h
  rw [foldTo_stays K m σ a (.inl (Nat.lt_succ_self i)) d]
  show foldStep K m i (σ i) (foldTo K m σ a i) i j = _
  unfold foldStep
  rw [if_pos rfl, if_neg (by omega), if_pos hj]
/-- Sums of rational numbers, by their places. -/
def sumH : Nat → (Nat → Rat) → Rat
  | 0, _ => 0
  | n + 1, f => sumH n f + f n
theorem sumH_congr {f g : Nat → Rat} : ∀ n, (∀ j, j < n → f j = g j) → sumH n f = sumH n g
  | 0, _ => rfl
  | n + 1, h => by show sumH n f + f n = sumH n g + g n; rw [sumH_congr n fun j hj => h j (by omega), h n (by omega)]
theorem sumH_zero {f : Nat → Rat} : ∀ n, (∀ j, j < n → f j = 0) → sumH n f = 0
  | 0, _ => rfl
  | n + 1, h => by show sumH n f + f n = 0; rw [sumH_zero n fun j hj => h j (by omega), h n (by omega), Rat.add_zero]
theorem sumH_split (f : Nat → Rat) (k : Nat) : ∀ d, sumH (k + d) f = sumH k f + sumH d fun j => f (k + j)
  | 0 => by show sumH k f = sumH k f + 0; rw [Rat.add_zero]
  | d + 1 => by show sumH (k + d) f + f (k + d) = sumH k f + (sumH d (fun j => f (k + j)) + f (k + d)); rw [sumH_split f k d, Rat.add_assoc]
theorem sumH_lin (f g : Nat → Rat) (s : Rat) : ∀ n, sumH n (fun j => f j - g j * s) = sumH n f - sumH n g * s
  | 0 => by show (0 : Rat) = 0 - 0 * s; grind
  | n + 1 => by show sumH n (fun j => f j - g j * s) + (f n - g n * s) = sumH n f + f n - (sumH n g + g n) * s; rw [sumH_lin f g s n]; grind
theorem dotQ_sumH (f g : Nat → Rat) : ∀ n, dotQ ((List.range n).map f) ((List.range n).map g) = sumH n fun j => f j * g j
  | 0 => rfl
  | n + 1 => by
    rw [List.range_succ, List.map_append, List.map_append, List.map_singleton, List.map_singleton, dotQ_snoc (by simp), dotQ_sumH f g n]
    rfl
/-- What two rows are, from column k on. -/
def dT (m k : Nat) (f g : Nat → Rat) : Rat := sumH (m - k) fun j => f (k + j) * g (k + j)
theorem dT_comm (m k : Nat) (f g : Nat → Rat) : dT m k f g = dT m k g f := sumH_congr _ fun j _ => Rat.mul_comm _ _
theorem dT_subl (m k : Nat) (f v g : Nat → Rat) (t : Rat) : dT m k (fun j => f j - v j * t) g = dT m k f g - dT m k v g * t := by
  unfold dT
  rw [← sumH_lin]
  exact sumH_congr _ fun j _ => by grind
theorem dT_subr (m k : Nat) (f v g : Nat → Rat) (t : Rat) : dT m k g (fun j => f j - v j * t) = dT m k g f - dT m k g v * t := by
  rw [dT_comm, dT_subl, dT_comm m k f g, dT_comm m k v g]
/-- A fold of two rows keeps what they are to one another. -/
theorem dT_fold {m k : Nat} {f g v : Nat → Rat} {t s : Rat} (hv : dT m k v v ≠ 0) (ht : t * dT m k v v = dT m k f v + dT m k f v) (hs : s * dT m k v v = dT m k g v + dT m k g v) :
    dT m k (fun j => f j - v j * t) (fun j => g j - v j * s) = dT m k f g := by
  rw [dT_subl, dT_subr, dT_subr, dT_comm m k v g]
  grind
end Go.Proofs.YtljmggemdkfbiaaGreat
