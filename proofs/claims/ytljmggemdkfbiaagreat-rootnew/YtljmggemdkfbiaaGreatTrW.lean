/- awake of layer 7's laws; whether a number is 0, as the laws' closures tell it. -/
import Derived.Test.YtljmggemdkfbiaaGreatTrG
import Derived.Test.YtljmggemdkfbiaaGreatTrIF
import Derived.Test.YtljmggemdkfbiaaGreatTrDF
namespace Go.Proofs.YtljmggemdkfbiaaGreat
open Go.RowKit
set_option linter.unusedSimpArgs false
set_option linter.unusedVariables false

def zeroN (x : Fr) : Bool := x.n == 0
theorem aboveB_low {n : Nat} {s : Nat → Nat → Int} (hl : Low 0 s) : aboveB n (fun i k => itF (s i k)) zeroN = true :=
  aboveB_iff.2 fun i k h _ => by
    unfold zeroN itF
    rw [hl i k h]
    rfl
/-- A matrix of whole numbers, as layer 6's Same is asked of it. -/
theorem mxI_rq {w : World} {R C : Nat} {p : Option Addr} {n cap : Nat} {s : Nat → Nat → Int} (h : MxI w R C p n cap s) : Rq 3 cellsF w (.slice p n cap) ((mk R C s).map itF) := by
  rw [mk_map]; exact h.2.2
end Go.Proofs.YtljmggemdkfbiaaGreat
