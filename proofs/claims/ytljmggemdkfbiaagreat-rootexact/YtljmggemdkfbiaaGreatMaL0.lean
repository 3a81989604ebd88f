/- What a mirrored matrix holds. -/
import Derived.Test.YtljmggemdkfbiaaGreatMaM
namespace Go.Proofs.YtljmggemdkfbiaaGreat
/-- The number below the diagonal, of two places. -/
def mirM {α : Type} (f : Nat → Nat → α) (i k : Nat) : α := f (max i k) (min i k)
end Go.Proofs.YtljmggemdkfbiaaGreat
