/- Joseph's lane (layer 9), of any kind of numbers: what is predicted, what is updated. Mathematics alone. -/
import Derived.Test.YtljmggemdkfbiaaGreatHsM
import Derived.Test.YtljmggemdkfbiaaGreatMaL0
import Derived.Test.YtljmggemdkfbiaaGreatMaY0
namespace Go.Proofs.YtljmggemdkfbiaaGreat
open Go.RowKit
set_option linter.unusedSimpArgs false
set_option linter.unusedVariables false

/-- A row of n numbers. -/
def linJ {α : Type} (n : Nat) (x : Nat → α) : List α := (List.range n).map x
theorem linJ_len {α : Type} (n : Nat) (x : Nat → α) : (linJ n x).length = n := by simp [linJ]
theorem linJ_get {α : Type} {n : Nat} (x : Nat → α) {k : Nat} (h : k < n) : (linJ n x)[k]? = some (x k) := by simp [linJ, h]
theorem linJ_row {α : Type} (n : Nat) (f : Nat → Nat → α) (i : Nat) : rowM n f i = linJ n (f i) := rfl
theorem linJ_congr {α : Type} {n : Nat} {x y : Nat → α} (h : ∀ k, k < n → x k = y k) : linJ n x = linJ n y :=
  List.map_congr_left fun k hk => h k (List.mem_range.1 hk)
theorem linJ_map {α β : Type} (n : Nat) (x : Nat → α) (g : α → β) : (linJ n x).map g = linJ n (fun k => g (x k)) := by simp [linJ, Function.comp_def]
theorem linJ_zip {α β γ : Type} (n : Nat) (op : α → β → γ) (x : Nat → α) (y : Nat → β) : List.zipWith op (linJ n x) (linJ n y) = linJ n (fun k => op (x k) (y k)) := by
  unfold linJ
  rw [List.zipWith_map, List.zipWith_self]
theorem linJ_of {α : Type} {n : Nat} (d : α) (xs : List α) (hl : xs.length = n) : xs = linJ n (fun k => xs.getD k d) := by
  apply List.ext_getElem?
  intro k
  by_cases h : k < n
  · rw [linJ_get _ h, List.getD_eq_getElem?_getD, List.getElem?_eq_getElem (by omega)]
    rfl
  · rw [List.getElem?_eq_none (by omega), List.getElem?_eq_none (by rw [linJ_len]; omega)]
theorem linJ_inj {α : Type} {n : Nat} {x y : Nat → α} (h : linJ n x = linJ n y) {k : Nat} (hk : k < n) : x k = y k := by
  have := linJ_get x hk
  rw [h, linJ_get y hk] at this
  exact (Option.some.inj this).symm
/-- As a column, as a row: a matrix of one column, of one row. -/
theorem linJ_col {α : Type} (n : Nat) (x : Nat → α) : linJ n x = mk n 1 (fun i _ => x i) := by
  apply List.ext_getElem?
  intro k
  by_cases h : k < n
  · have := mk_get (R := n) (C := 1) (fun i _ => x i) h (show 0 < 1 by decide)
    rw [Nat.mul_one, Nat.add_zero] at this
    rw [linJ_get _ h, this]
  · rw [List.getElem?_eq_none (by rw [linJ_len]; omega), List.getElem?_eq_none (by rw [mk_len]; omega)]
theorem linJ_one {α : Type} (n : Nat) (x : Nat → α) : linJ n x = mk 1 n (fun _ k => x k) := by
  rw [mk_succ, mk_zero]
  rfl
def mulK {α : Type} (K : Kd α) (M : Nat) (f g : Nat → Nat → α) (i k : Nat) : α := K.dot (rowM M f i) (colM M g k)
def aroundJ {α : Type} (K : Kd α) (n : Nat) (m p : Nat → Nat → α) : Nat → Nat → α := mulK K n (mulK K n m p) (fun i k => m k i)
def addJ {α : Type} (K : Kd α) (f g : Nat → Nat → α) (i k : Nat) : α := K.add (f i k) (g i k)
def squareJ {α : Type} (K : Kd α) (n : Nat) (g : Nat → Nat → α) : Nat → Nat → α := mirM (mulK K n g (fun i k => g k i))
def mirrJ {α : Type} (K : Kd α) (a b : Nat → Nat → α) : Nat → Nat → α := mirM (fun i k => K.add (a i k) (b i k))
/-- A matrix applied to a row. -/
def appJ {α : Type} (K : Kd α) (n : Nat) (f : Nat → Nat → α) (x : Nat → α) (i : Nat) : α := K.dot (rowM n f i) (linJ n x)
/-- P behind a prediction. -/
def predJ {α : Type} (K : Kd α) (n : Nat) (f p g : Nat → Nat → α) : Nat → Nat → α := mirrJ K (aroundJ K n f p) (squareJ K n g)
/-- The spread. -/
def spreadJ {α : Type} (K : Kd α) (n : Nat) (p : Nat → Nat → α) (h : Nat → α) (r : α) : α := K.add (K.dot (linJ n h) (linJ n (appJ K n p h))) r
/-- The gain. -/
def gainJ {α : Type} (K : Kd α) (n : Nat) (p : Nat → Nat → α) (h : Nat → α) (r : α) (i : Nat) : α := K.div (appJ K n p h i) (spreadJ K n p h r)
/-- The surprise. -/
def surpJ {α : Type} (K : Kd α) (n : Nat) (x h : Nat → α) (z : α) : α := K.sub z (K.dot (linJ n h) (linJ n x))
/-- X behind an update. -/
def upXJ {α : Type} (K : Kd α) (n : Nat) (x : Nat → α) (p : Nat → Nat → α) (h : Nat → α) (r z : α) (i : Nat) : α := K.add (x i) (K.mul (gainJ K n p h r i) (surpJ K n x h z))
def outerJ {α : Type} (K : Kd α) (c r : Nat → α) : Nat → Nat → α := mulK K 1 (fun i _ => c i) (fun _ k => r k)
def restJ {α : Type} (K : Kd α) (one : Nat → Nat → α) (k h : Nat → α) (i j : Nat) : α := K.sub (one i j) (outerJ K k h i j)
/-- P behind an update. -/
def upPJ {α : Type} (K : Kd α) (one : Nat → Nat → α) (n : Nat) (p : Nat → Nat → α) (h : Nat → α) (r : α) : Nat → Nat → α :=
  mirrJ K (aroundJ K n (restJ K one (gainJ K n p h r) h) p) (outerJ K (fun i => K.mul (gainJ K n p h r i) r) (gainJ K n p h r))
theorem mirM_self {α : Type} (f : Nat → Nat → α) : mirM (mirM f) = mirM f := by
  funext i k
  unfold mirM
  rw [show max (max i k) (min i k) = max i k by omega, show min (max i k) (min i k) = min i k by omega]
end Go.Proofs.YtljmggemdkfbiaaGreat
