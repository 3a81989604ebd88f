/- What a mirrored matrix holds. -/
import Derived.Test.YtlbmkjicbkfmjaaGreatMaM
namespace Go.Proofs.YtlbmkjicbkfmjaaGreat
/-- The number below the diagonal, of two places. -/
def mirM {α : Type} (f : Nat → Nat → α) (i k : Nat) : α := f (max i k) (min i k)
end Go.Proofs.YtlbmkjicbkfmjaaGreat
