/- The cells of an enclosed number's box, in the class of worlds behind a given one. -/
import Derived.Test.YtfbioinmgchdcaaEn1
import Derived.Test.YtfbioinmgchdcaaWlr
import Derived.BigQuiet
namespace Go.Proofs.Ytfbioinmgchdcaa
open Go.RowKit
set_option linter.unusedSimpArgs false
set_option linter.unusedVariables false

theorem Box.wl {V : World} {b : Nat} {x : En} (h : Box V b x) : (∀ z : Wl V, z.w.cell? ⟨b, 0, none⟩ = some (.int .i64 x.v)) ∧ (∀ z : Wl V, z.w.cell? ⟨b, 1, none⟩ = some (.int .i64 x.l)) ∧ (∀ z : Wl V, z.w.cell? ⟨b, 2, none⟩ = some (.int .i64 x.h)) ∧ (∀ z : Wl V, z.w.cell? ⟨b, 3, none⟩ = some (.bool x.bad)) :=
  ⟨fun z => (h.later z.bl).c0, fun z => (h.later z.bl).c1, fun z => (h.later z.bl).c2, fun z => (h.later z.bl).c3⟩
end Go.Proofs.Ytfbioinmgchdcaa
