/- Contracts of wide.times, product, order, outward, rounded. -/
import Derived.Test.YtljmggemdkfbiaaDoorLeaf
import Derived.Deep.RegionHeld3
import Derived.Deep.RegionWith
import Derived.BigQuiet
namespace Go.Proofs.YtljmggemdkfbiaaDoor
open Go.RowKit
set_option linter.unusedSimpArgs false
set_option linter.unusedVariables false

/-- Of what was there nothing has turned. -/
def Bl (w w' : World) : Prop := Below w.heap.size w w'
theorem Bl.refl (w : World) : Bl w w := Below.refl _ _
theorem Bl.trans {a b c : World} (h : Bl a b) (k : Bl b c) : Bl a c := Below.trans h (Below.mono k h.size)
theorem Bl.alloc {a b : World} (h : Bl a b) (o : Obj) : Bl a (b.alloc o) := Below.alloc h h.size o
theorem Bl.drew {a b : World} (h : Bl a b) : Bl a b.drew := Below.drew h

theorem Bl.set {a b : World} (h : Bl a b) {p : Addr} (hp : a.heap.size ≤ p.block) (v : Value) : Bl a (b.setCell p v) := Below.setCell h hp v
theorem bl_cell {W w1 : World} (hb : Bl W w1) : ∀ b o, b < W.heap.size → w1.cell? ⟨b, o, none⟩ = W.cell? ⟨b, o, none⟩ := fun b o h => Below.cell hb (p := ⟨b, o, none⟩) h
theorem bl_froz {W w1 : World} (hb : Bl W w1) : ∀ b o, b < W.heap.size → w1.frozen? ⟨b, o, none⟩ = W.frozen? ⟨b, o, none⟩ := fun b o h => Below.frozen hb (p := ⟨b, o, none⟩) h

/-- The two words of a number. -/
abbrev wd (n : Int) : Value := .agg #[.int .u64 (n / 18446744073709551616), .int .u64 (n % 18446744073709551616)]

theorem szI_nn (n : Int) : 0 ≤ szI n := by unfold szI; split <;> omega
theorem szI_u64 (n : Int) (h : I64 n) : U64 (szI n) := by obtain ⟨a, b⟩ := h; unfold szI U64; split <;> omega

/-- The first one that is not 0. -/
def orI (p q : Int) : Int := if p = 0 then q else p
end Go.Proofs.YtljmggemdkfbiaaDoor
