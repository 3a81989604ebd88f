/- Layer 10's words of any kind of numbers: a measurement, column by column from the last one. Mathematics alone. -/
import Derived.Test.YtljmggemdkfbiaaGreatJo0
import Derived.Test.YtljmggemdkfbiaaGreatTr0
import Derived.Test.YtljmggemdkfbiaaGreatHuA
namespace Go.Proofs.YtljmggemdkfbiaaGreat
open Go.RowKit
set_option linter.unusedSimpArgs false
set_option linter.unusedVariables false

/-- What is known between two columns: the triangle, what is gathered, and a. -/
structure StO (α : Type) where
  s : Nat → Nat → α
  e : Nat → α
  a : α
def bO {α : Type} (K : Kd α) (a w : α) : α := K.add a (K.mul w w)
def dO {α : Type} (K : Kd α) (a w : α) : α := K.root (K.div a (bO K a w))
def cO {α : Type} (K : Kd α) (a w : α) : α := K.div w (K.root (K.mul a (bO K a w)))
/-- A number of the column, changed. -/
def sO {α : Type} (K : Kd α) (a w x e : α) : α := K.sub (K.mul x (dO K a w)) (K.mul e (cO K a w))
/-- Column j, changed from its diagonal up to row i. -/
def partS {α : Type} (K : Kd α) (j i : Nat) (w : α) (t : StO α) (r k : Nat) : α := if k = j ∧ j ≤ r ∧ r < i then sO K t.a w (t.s r j) (t.e r) else t.s r k
def partE {α : Type} (K : Kd α) (j i : Nat) (w : α) (t : StO α) (r : Nat) : α := if j ≤ r ∧ r < i then K.add (t.e r) (K.mul (t.s r j) w) else t.e r
def stepO {α : Type} (K : Kd α) (n j : Nat) (w : α) (t : StO α) : StO α := ⟨partS K j n w t, partE K j n w t, bO K t.a w⟩
/-- A column's weight: the column's dot by h. -/
def wO {α : Type} (K : Kd α) (n : Nat) (s : Nat → Nat → α) (h : Nat → α) (j : Nat) : α := appJ K n (fun i k => s k i) h j
/-- The last t columns. -/
def runO {α : Type} (K : Kd α) (n : Nat) (s : Nat → Nat → α) (h : Nat → α) (r : α) : Nat → StO α
  | 0 => ⟨s, fun _ => K.z, r⟩
  | t + 1 => stepO K n (n - 1 - t) (wO K n s h (n - 1 - t)) (runO K n s h r t)
theorem partS_zero {α : Type} (K : Kd α) (j : Nat) (w : α) (t : StO α) : partS K j j w t = t.s := by
  funext r k
  unfold partS
  rw [if_neg (by omega)]
theorem partE_zero {α : Type} (K : Kd α) (j : Nat) (w : α) (t : StO α) : partE K j j w t = t.e := by
  funext r
  unfold partE
  rw [if_neg (by omega)]
theorem partS_next {α : Type} (K : Kd α) {j i : Nat} (hi : j ≤ i) (w : α) (t : StO α) : partS K j (i + 1) w t = putM (partS K j i w t) i j (sO K t.a w (t.s i j) (t.e i)) := by
  funext r k
  unfold putM partS
  by_cases h : r = i ∧ k = j
  · obtain ⟨rfl, rfl⟩ := h
    rw [if_pos ⟨rfl, hi, by omega⟩, if_pos ⟨rfl, rfl⟩]
  · rw [if_neg h]
    by_cases h2 : k = j ∧ j ≤ r ∧ r < i
    · rw [if_pos h2, if_pos ⟨h2.1, h2.2.1, by omega⟩]
    · rw [if_neg h2, if_neg (by omega)]
theorem partE_next {α : Type} (K : Kd α) {j i : Nat} (hi : j ≤ i) (w : α) (t : StO α) (r : Nat) : partE K j (i + 1) w t r = if r = i then K.add (t.e i) (K.mul (t.s i j) w) else partE K j i w t r := by
  unfold partE
  by_cases h : r = i
  · subst h
    rw [if_pos rfl, if_pos ⟨hi, by omega⟩]
  · rw [if_neg h]
    by_cases h2 : j ≤ r ∧ r < i
    · rw [if_pos h2, if_pos ⟨h2.1, by omega⟩]
    · rw [if_neg h2, if_neg (by omega)]
theorem partS_at {α : Type} (K : Kd α) (j i : Nat) (w : α) (t : StO α) : partS K j i w t i j = t.s i j := by
  unfold partS
  rw [if_neg (by omega)]
theorem partE_at {α : Type} (K : Kd α) (j i : Nat) (w : α) (t : StO α) : partE K j i w t i = t.e i := by
  unfold partE
  rw [if_neg (by omega)]
theorem But.put {S : Nat → Prop} {w b c : World} {r : Nat} (h : But S w b) (k : But (fun i => i = r) b c) (hr : w.heap.size ≤ r) : But S w c :=
  have q : But (fun i => S i ∨ i = r) w c := (h.mono fun _ => .inl).trans (k.mono fun _ => .inr)
  ⟨q.os, q.tape, q.output, q.size, fun i hi hs => q.block i hi (by rintro (h | h); exact hs h; omega)⟩
/-- What the columns of a list make of a state. -/
def foldO {α : Type} (K : Kd α) (n : Nat) (t : StO α) (l : List (Nat × α)) : StO α := l.foldl (fun t x => stepO K n x.1 x.2 t) t
theorem foldO_next {α : Type} (K : Kd α) (n : Nat) (t : StO α) (l : List (Nat × α)) (x : Nat × α) : foldO K n t (l ++ [x]) = stepO K n x.1 x.2 (foldO K n t l) := by simp [foldO]
theorem foldO_run {α : Type} (K : Kd α) (n : Nat) (s : Nat → Nat → α) (h : Nat → α) (r : α) : ∀ t, foldO K n ⟨s, fun _ => K.z, r⟩ ((List.range t).map fun i => (n - 1 - i, wO K n s h (n - 1 - i))) = runO K n s h r t := by
  intro t
  induction t with
  | zero => rfl
  | succ t ih => rw [List.range_succ, List.map_append, show List.map (fun i => (n - 1 - i, wO K n s h (n - 1 - i))) [t] = [(n - 1 - t, wO K n s h (n - 1 - t))] from rfl, foldO_next, ih]; rfl
end Go.Proofs.YtljmggemdkfbiaaGreat
