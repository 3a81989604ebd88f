/- Contracts of joseph's shares, outer, rest, of enclosed numbers (layer 9). Written by genJo.py. -/
import Derived.Test.YtljmggemdkfbiaaGreatJoBN
import Derived.Test.YtljmggemdkfbiaaGreatMaYN
import Derived.Test.YtljmggemdkfbiaaGreatTrBN
namespace Go.Proofs.YtljmggemdkfbiaaGreat
open Go.RowKit
set_option linter.unusedSimpArgs false
set_option linter.unusedVariables false

theorem fresh_ownN {w : World} {B b n : Nat} {e : TypeId} {s : Nat} {v : Value} {l : List Value} (h : w.ownsRow B e s v n l) (hb : b ≤ B) : Fresh b v := fun g hg => Nat.le_trans hb (h.lt g hg).1
end Go.Proofs.YtljmggemdkfbiaaGreat
