/- What a mirrored matrix holds. -/
import Derived.Test.YthnadgbloamlaaaGreatMaM
namespace Go.Proofs.YthnadgbloamlaaaGreat
/-- The number below the diagonal, of two places. -/
def mirM {α : Type} (f : Nat → Nat → α) (i k : Nat) : α := f (max i k) (min i k)
end Go.Proofs.YthnadgbloamlaaaGreat
