/- A state of Joseph's lane as a value, and in a block. -/
import Derived.Test.YtljmggemdkfbiaaGreatJo0
import Derived.Test.YtljmggemdkfbiaaGreatMa0
import Derived.Test.YtljmggemdkfbiaaGreatTr0
namespace Go.Proofs.YtljmggemdkfbiaaGreat
open Go.RowKit
set_option linter.unusedSimpArgs false
set_option linter.unusedVariables false

/-- A state as a value. -/
abbrev sJ (px : Option Addr) (nx cx : Nat) (r c : Int) (p : Option Addr) (n cap : Nat) : Value := .agg #[.slice px nx cx, .int .i64 r, .int .i64 c, .slice p n cap]
/-- A state in a block. -/
structure SBox (w : World) (b : Nat) (px : Option Addr) (nx cx : Nat) (r c : Int) (p : Option Addr) (n cap : Nat) : Prop where
  c0 : w.cell? ⟨b, 0, none⟩ = some (.slice px nx cx)
  c1 : w.cell? ⟨b, 1, none⟩ = some (.int .i64 r)
  c2 : w.cell? ⟨b, 2, none⟩ = some (.int .i64 c)
  c3 : w.cell? ⟨b, 3, none⟩ = some (.slice p n cap)
  f0 : w.frozen? ⟨b, 0, none⟩ = false
  f1 : w.frozen? ⟨b, 1, none⟩ = false
  f2 : w.frozen? ⟨b, 2, none⟩ = false
  f3 : w.frozen? ⟨b, 3, none⟩ = false
  lt : b < w.heap.size
theorem SBox.later {w w' : World} {b : Nat} {px : Option Addr} {nx cx : Nat} {r c : Int} {p : Option Addr} {n cap : Nat} (h : SBox w b px nx cx r c p n cap) (k : Bl w w') : SBox w' b px nx cx r c p n cap := by
  have := h.lt
  refine ⟨?_, ?_, ?_, ?_, ?_, ?_, ?_, ?_, by have := Below.size k; omega⟩
  · rw [bl_cell k _ _ this]; exact h.c0
  · rw [bl_cell k _ _ this]; exact h.c1
  · rw [bl_cell k _ _ this]; exact h.c2
  · rw [bl_cell k _ _ this]; exact h.c3
  · rw [bl_froz k _ _ this]; exact h.f0
  · rw [bl_froz k _ _ this]; exact h.f1
  · rw [bl_froz k _ _ this]; exact h.f2
  · rw [bl_froz k _ _ this]; exact h.f3
theorem SBox.new (w : World) (px : Option Addr) (nx cx : Nat) (r c : Int) (p : Option Addr) (n cap : Nat) (t : TypeId) : SBox (w.alloc (.cells #[.slice px nx cx, .int .i64 r, .int .i64 c, .slice p n cap] t)) w.heap.size px nx cx r c p n cap := by
  refine ⟨?_, ?_, ?_, ?_, ?_, ?_, ?_, ?_, by simp⟩ <;> simp [go_sem]
theorem Bl.put4 {a b : World} (h : Bl a b) {n : Nat} (hn : a.heap.size ≤ n) (v0 v1 v2 v3 : Value) : Bl a ((((b.setCell ⟨n, 0, none⟩ v0).setCell ⟨n, 1, none⟩ v1).setCell ⟨n, 2, none⟩ v2).setCell ⟨n, 3, none⟩ v3) :=
  Bl.set (Bl.set (Bl.set (Bl.set h hn _) hn _) hn _) hn _
theorem SBox.fill {u : World} {b : Nat} {px : Option Addr} {nx cx : Nat} {r c : Int} {p : Option Addr} {n cap : Nat} (h : SBox u b px nx cx r c p n cap) (px' : Option Addr) (nx' cx' : Nat) (r' c' : Int) (p' : Option Addr) (n' cap' : Nat) :
    SBox ((((u.setCell ⟨b, 0, none⟩ (.slice px' nx' cx')).setCell ⟨b, 1, none⟩ (.int .i64 r')).setCell ⟨b, 2, none⟩ (.int .i64 c')).setCell ⟨b, 3, none⟩ (.slice p' n' cap')) b px' nx' cx' r' c' p' n' cap' := by
  obtain ⟨c0, c1, c2, c3, f0, f1, f2, f3, lt⟩ := h
  refine ⟨?_, ?_, ?_, ?_, ?_, ?_, ?_, ?_, ?_⟩ <;> simp [go_sem, *]
theorem rq_put4 {α : Type} {s : Nat} {c : α → List Value} {w : World} {v : Value} {xs : List α} {b : Nat} (h : Rq s c w v xs) (hf : Fresh (b + 1) v) (v0 v1 v2 v3 : Value) : Rq s c ((((w.setCell ⟨b, 0, none⟩ v0).setCell ⟨b, 1, none⟩ v1).setCell ⟨b, 2, none⟩ v2).setCell ⟨b, 3, none⟩ v3) v xs :=
  rq_set7 (rq_set7 (rq_set7 (rq_set7 h (p := ⟨b, 0, none⟩) v0 hf) (p := ⟨b, 1, none⟩) v1 hf) (p := ⟨b, 2, none⟩) v2 hf) (p := ⟨b, 3, none⟩) v3 hf
theorem mx_put4 {α : Type} {s : Nat} {c : α → List Value} {w : World} {R C : Nat} {p : Option Addr} {n cap b : Nat} {f : Nat → Nat → α} (h : Mx s c w R C p n cap f) (hf : Fresh (b + 1) (.slice p n cap)) (v0 v1 v2 v3 : Value) :
    Mx s c ((((w.setCell ⟨b, 0, none⟩ v0).setCell ⟨b, 1, none⟩ v1).setCell ⟨b, 2, none⟩ v2).setCell ⟨b, 3, none⟩ v3) R C p n cap f :=
  ⟨h.1, h.2.1, rq_put4 h.2.2 hf v0 v1 v2 v3⟩
theorem fresh_le {a b : Nat} {v : Value} (h : Fresh a v) (k : b ≤ a) : Fresh b v := fun g hg => by have := h g hg; omega
/-- A state goes together: n numbers, n at most 4, and a square of as many. -/
def fitJ (r c : Int) (n : Nat) (k : Int) : Bool := decide (k ≤ 4) && (fitB r c n && (r == k && c == k))
theorem fitJ_nat {r c : Int} {n : Nat} {k : Nat} (h : fitJ r c n k = true) : r = k ∧ c = k ∧ Dim k k ∧ n = k * k ∧ k ≤ 4 := by
  unfold fitJ at h
  simp only [Bool.and_eq_true, decide_eq_true_eq, beq_iff_eq] at h
  obtain ⟨h1, h2, rfl, rfl⟩ := h
  obtain ⟨R, C, e1, e2, hd, hn⟩ := fitB_nat h2
  obtain rfl : R = k := by omega
  obtain rfl : C = R := by omega
  exact ⟨rfl, rfl, hd, hn, by omega⟩
theorem fitJ_dim {n N : Nat} (hd : Dim n n) (hn : N = n * n) (h4 : n ≤ 4) : fitJ n n N n = true := by
  unfold fitJ
  rw [fitB_dim hd hn]
  simp
  omega
theorem dim_le4 {n : Nat} (h1 : 1 ≤ n) (h4 : n ≤ 4) : Dim n n := ⟨h1, by omega, h1, by omega⟩
end Go.Proofs.YtljmggemdkfbiaaGreat
