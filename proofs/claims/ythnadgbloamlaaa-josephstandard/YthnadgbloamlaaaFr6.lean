/- The contract of frac's Root (layer 4). -/
import Derived.Test.YthnadgbloamlaaaFr5
namespace Go.Proofs.Ythnadgbloamlaaa
open Go.RowKit
set_option linter.unusedSimpArgs false
set_option linter.unusedVariables false

theorem neq_fr (a b : Fr) (w : World) : (binOp .neq 35 (frV a) (frV b)).run Try.prog w = .ok (.bool (!eqR a b)) w := by
  rw [run_neq_struct, run_equalIn_agg _ _ _ _ _ Try.frFields Try.frHeld]
  rw [eqFields_map 9999 #[.int .i64 a.n, .int .i64 a.d, .bool a.bad] #[.int .i64 b.n, .int .i64 b.d, .bool b.bad] _ [{ name := "N", type := 3, offset := 0, embedded := false, tag := "", pkgPath := "", byteOffset := 0 }, { name := "D", type := 3, offset := 1, embedded := false, tag := "", pkgPath := "", byteOffset := 0 }, { name := "Bad", type := 4, offset := 2, embedded := false, tag := "", pkgPath := "", byteOffset := 0 }] Try.frList]
  cases h1 : (a.n == b.n) <;> cases h2 : (a.d == b.d) <;> cases h3 : (a.bad == b.bad) <;> simp [Op.eqFields, part, go_sem, eqR, h1, h2, h3]

/-- The root, as it is tried. -/
def tryR (a : Fr) : Fr := ⟨flR a.n, flR a.d, false⟩
def rootR (a : Fr) : Fr := if fineR a then (if eqR (mulR (tryR a) (tryR a)) a then tryR a else wrongR) else wrongR

end Go.Proofs.Ythnadgbloamlaaa
