/- FracSums: its first statement. -/
import Derived.Test.YtoibkkiohpnaaaaFr8
import Derived.Test.YtoibkkiohpnaaaaFrF
import Derived.Test.YtoibkkiohpnaaaaPhase
import Derived.Deep.DeepCutAuto
namespace Go.Proofs.Ytoibkkiohpnaaaa
open Go.RowKit
set_option linter.unusedSimpArgs false
set_option linter.unusedVariables false

/-- The frame while both fractions' sum, difference and product are told. -/
def sumAct (a b : Fr) (n : Nat) (v5 v6 v7 v14 v17 v20 : Value) : Act := { tmps := #[frV a, frV b, .pointer (some ⟨n, 0, none⟩), .pointer (some ⟨n + 1, 0, none⟩), .bool false, v5, v6, v7, undef, undef, undef, undef, (Value.agg #[.int .i64 a.n, .int .i64 a.d, .bool a.bad]), (Value.agg #[.int .i64 b.n, .int .i64 b.d, .bool b.bad]), v14, (Value.agg #[.int .i64 a.n, .int .i64 a.d, .bool a.bad]), (Value.agg #[.int .i64 b.n, .int .i64 b.d, .bool b.bad]), v17, (Value.agg #[.int .i64 a.n, .int .i64 a.d, .bool a.bad]), (Value.agg #[.int .i64 b.n, .int .i64 b.d, .bool b.bad]), v20, undef, undef, undef, undef, undef, undef, undef, undef, undef, undef, undef, undef, undef, undef, undef, undef, undef, undef, undef, undef, undef, undef, undef, undef, undef, undef, undef, undef, undef, undef, undef, undef, undef, undef, undef, undef, undef, undef, undef, undef, undef, undef, undef, undef, undef, undef, undef, undef, undef, undef, undef, undef, undef, undef, undef, undef, undef, undef, undef, undef, undef, undef, undef, undef, undef, undef, undef, undef, undef, undef, undef, undef, undef, undef, undef, undef, undef, undef, undef, undef, undef, undef, undef, undef, undef, undef, undef, undef, undef, undef, undef, undef, undef, undef, undef, undef, undef, undef, undef, undef, undef, undef, undef, undef, undef, undef, undef, undef, undef, undef, undef, undef, undef, undef, undef, undef, undef, undef, undef, undef, undef, undef, undef, undef, undef, undef, undef, undef, undef, undef, undef, undef, undef, undef, undef, undef, undef, undef, undef, undef, undef, undef, undef, undef, undef, undef, undef, undef, undef, undef, undef, undef, undef, undef, undef, undef, undef, undef, undef, undef, undef, undef, undef, undef, undef, undef, undef, undef, undef, undef, undef, undef, undef, undef, undef, undef, undef, undef, undef, undef, undef, undef, undef, undef, undef, undef, undef, undef, undef, undef, undef, undef, undef, undef], defers := [] }
abbrev ptV (p : Nat) : Value := .pointer (some ⟨p, 0, none⟩)
/-- Between two of its operations. -/
def SumI (a b x y z : Fr) (n : Nat) (W : World) (k : Nat) (l : Array Bool) (act : Act) (u : World) : Prop :=
  ∃ (l2 l5 l8 l9 l10 l11 : Bool) (v5 v6 v7 v14 v17 v20 : Value) (p q r : Nat), l = #[true, true, l2, true, true, l5, true, true, l8, l9, l10, l11, false, false, false] ∧ k = cnt l2 + cnt l5 + cnt l8 + cnt l9 + cnt l10 + cnt l11 ∧ act = sumAct a b n v5 v6 v7 v14 v17 v20
    ∧ (l2 = true → v14 = frV x) ∧ (l5 = true → v17 = frV y) ∧ (l8 = true → v20 = frV z)
    ∧ (l9 = true → v5 = ptV p ∧ FBox u p zeroR ∧ W.heap.size ≤ p) ∧ (l10 = true → v6 = ptV q ∧ FBox u q zeroR ∧ W.heap.size ≤ q) ∧ (l11 = true → v7 = ptV r ∧ FBox u r zeroR ∧ W.heap.size ≤ r)
    ∧ (l9 = true → l10 = true → p ≠ q) ∧ (l9 = true → l11 = true → p ≠ r) ∧ (l10 = true → l11 = true → q ≠ r) ∧ (l5 = true → l2 = true) ∧ (l8 = true → l5 = true) ∧ Bl W u
theorem getD_lt {l : Array Bool} {i : Nat} (h : l.getD i true = false) : i < l.size := by
  rcases Nat.lt_or_ge i l.size with h' | h'
  · exact h'
  · simp [Array.getD, Nat.not_lt.2 h'] at h
/-- One that is filled. -/
theorem FBox.set3 {u : World} {p : Nat} {r : Fr} (h : FBox u p r) (x : Fr) : FBox (((u.setCell ⟨p, 0, none⟩ (.int .i64 x.n)).setCell ⟨p, 1, none⟩ (.int .i64 x.d)).setCell ⟨p, 2, none⟩ (.bool x.bad)) p x := by
  obtain ⟨c0, c1, c2, f0, f1, f2, lt⟩ := h
  refine ⟨?_, ?_, ?_, ?_, ?_, ?_, ?_⟩ <;> simp [go_sem, *]
theorem FBox.set3o {u : World} {p q : Nat} {r : Fr} (h : FBox u p r) (hne : p ≠ q) (x y z : Value) : FBox (((u.setCell ⟨q, 0, none⟩ x).setCell ⟨q, 1, none⟩ y).setCell ⟨q, 2, none⟩ z) p r := by
  obtain ⟨c0, c1, c2, f0, f1, f2, lt⟩ := h
  have hne' := hne.symm
  refine ⟨?_, ?_, ?_, ?_, ?_, ?_, ?_⟩ <;> simp [go_sem, *]
end Go.Proofs.Ytoibkkiohpnaaaa
