/-
  No cell of these rows narrows 'for every input' (looked for: loops, veiled, ifaces, maps, wideKeys, modest, calm, conditions, laid).
  DERIVED. THE GIVEN ROWS OF THIS SEAT. 6 by the template 'for every input the law returns true; each argument reads behind the call as it read before'; 0 by the template 'total and deterministic' (their statements: YtfbioinmgchdcaaTotals.lean).
  GIVEN WITH THE SEED: the statements are not yours to turn. If you find one false, say at which input.
  Laid BY PROGRAM, IN A SANDBOX (cutbox-rows.mjs): the forced cells as the released guide's own fill.sh prints them over the translation a0a44a01d91eceb9… (all of the seat's roots in one cut). By AI agents, Wed Nov 11 2026. No macro, syntax, notation, axiom, sorry.
-/
import Derived.Test.YtfbioinmgchdcaaChecked
import GoSem.Claim
import GoSem.ClaimJoined
import GoSem.ClaimMapViews
import Derived.JoinedTies
import Derived.KernelRfl
namespace Go.Proofs.Ytfbioinmgchdcaa
/- THE CELL 'sum', in the pinned program and in every row, IS THE sha256 OF THE DUMP (.gsa) THAT YtfbioinmgchdcaaProg.lean LOADS. Nothing in Lean hashes anything: it is a label: what it is worth is what the hold of that sum in a sandbox is worth. -/
noncomputable def Try.pinned : Pinned := { name := "ytfbioinmgchdcaa", sum := "a0a44a01d91eceb934ce05c562949091ad4874f35c86e904db512399af30ef7d", checked := Try.checked }
namespace Rows
def none {H : Type} : Left H := { results := [], args := [] }

/-- 'coupletlaw05.VecWhole': WHATEVER THE INPUT: true; the input reads as it did. -/
def vecWholeSpec : ChangeSpec := { name := "vecWhole", fn := fun _ => fun
  | [d1, d2, d3] => { results := [.lit (.bool true)], args := [d1, d2, d3] }
  | _ => none }
def vecWholeRow : OpenClaim := { program := "ytfbioinmgchdcaa", sum := "a0a44a01d91eceb934ce05c562949091ad4874f35c86e904db512399af30ef7d", func := "couplet/coupletlaw05.VecWhole", spec := "vecWhole", unfollowed := true, recurses := true, apart := false }
def VecWholeSaid : Prop := vecWholeRow.holds Try.pinned (OpenSpec.ofChange vecWholeSpec)

/-- ITS FALSE NEIGHBOUR: 'it returns false'. Refute it at one input. -/
def vecWholeWrong : ChangeSpec := { name := "vecWhole", fn := fun _ => fun
  | [d1, d2, d3] => { results := [.lit (.bool false)], args := [d1, d2, d3] }
  | _ => none }
def VecWholeWrongFalsely : Prop := vecWholeRow.holds Try.pinned (OpenSpec.ofChange vecWholeWrong)

/-- 'coupletlaw05.VecEncloses': WHATEVER THE INPUT: true; the input reads as it did. -/
def vecEnclosesSpec : ChangeSpec := { name := "vecEncloses", fn := fun _ => fun
  | [d1, d2] => { results := [.lit (.bool true)], args := [d1, d2] }
  | _ => none }
def vecEnclosesRow : OpenClaim := { program := "ytfbioinmgchdcaa", sum := "a0a44a01d91eceb934ce05c562949091ad4874f35c86e904db512399af30ef7d", func := "couplet/coupletlaw05.VecEncloses", spec := "vecEncloses", unfollowed := true, recurses := true, named := ["math/bits.divideError", "math/bits.overflowError"], apart := false }
def VecEnclosesSaid : Prop := vecEnclosesRow.holds Try.pinned (OpenSpec.ofChange vecEnclosesSpec)

/-- ITS FALSE NEIGHBOUR: 'it returns false'. Refute it at one input. -/
def vecEnclosesWrong : ChangeSpec := { name := "vecEncloses", fn := fun _ => fun
  | [d1, d2] => { results := [.lit (.bool false)], args := [d1, d2] }
  | _ => none }
def VecEnclosesWrongFalsely : Prop := vecEnclosesRow.holds Try.pinned (OpenSpec.ofChange vecEnclosesWrong)

/-- 'coupletlaw05.VecSteps': WHATEVER THE INPUT: true; the input reads as it did. -/
def vecStepsSpec : ChangeSpec := { name := "vecSteps", fn := fun _ => fun
  | [d1, d2] => { results := [.lit (.bool true)], args := [d1, d2] }
  | _ => none }
def vecStepsRow : OpenClaim := { program := "ytfbioinmgchdcaa", sum := "a0a44a01d91eceb934ce05c562949091ad4874f35c86e904db512399af30ef7d", func := "couplet/coupletlaw05.VecSteps", spec := "vecSteps", unfollowed := true, recurses := true, apart := false }
def VecStepsSaid : Prop := vecStepsRow.holds Try.pinned (OpenSpec.ofChange vecStepsSpec)

/-- ITS FALSE NEIGHBOUR: 'it returns false'. Refute it at one input. -/
def vecStepsWrong : ChangeSpec := { name := "vecSteps", fn := fun _ => fun
  | [d1, d2] => { results := [.lit (.bool false)], args := [d1, d2] }
  | _ => none }
def VecStepsWrongFalsely : Prop := vecStepsRow.holds Try.pinned (OpenSpec.ofChange vecStepsWrong)

/-- 'coupletlaw05.VecPairs': WHATEVER THE INPUT: true; the input reads as it did. -/
def vecPairsSpec : ChangeSpec := { name := "vecPairs", fn := fun _ => fun
  | [d1, d2, d3] => { results := [.lit (.bool true)], args := [d1, d2, d3] }
  | _ => none }
def vecPairsRow : OpenClaim := { program := "ytfbioinmgchdcaa", sum := "a0a44a01d91eceb934ce05c562949091ad4874f35c86e904db512399af30ef7d", func := "couplet/coupletlaw05.VecPairs", spec := "vecPairs", unfollowed := true, recurses := true, apart := false }
def VecPairsSaid : Prop := vecPairsRow.holds Try.pinned (OpenSpec.ofChange vecPairsSpec)

/-- ITS FALSE NEIGHBOUR: 'it returns false'. Refute it at one input. -/
def vecPairsWrong : ChangeSpec := { name := "vecPairs", fn := fun _ => fun
  | [d1, d2, d3] => { results := [.lit (.bool false)], args := [d1, d2, d3] }
  | _ => none }
def VecPairsWrongFalsely : Prop := vecPairsRow.holds Try.pinned (OpenSpec.ofChange vecPairsWrong)

/-- 'coupletlaw05.VecRules': WHATEVER THE INPUT: true; the input reads as it did. -/
def vecRulesSpec : ChangeSpec := { name := "vecRules", fn := fun _ => fun
  | [d1, d2, d3, d4] => { results := [.lit (.bool true)], args := [d1, d2, d3, d4] }
  | _ => none }
def vecRulesRow : OpenClaim := { program := "ytfbioinmgchdcaa", sum := "a0a44a01d91eceb934ce05c562949091ad4874f35c86e904db512399af30ef7d", func := "couplet/coupletlaw05.VecRules", spec := "vecRules", unfollowed := true, recurses := true, apart := false }
def VecRulesSaid : Prop := vecRulesRow.holds Try.pinned (OpenSpec.ofChange vecRulesSpec)

/-- ITS FALSE NEIGHBOUR: 'it returns false'. Refute it at one input. -/
def vecRulesWrong : ChangeSpec := { name := "vecRules", fn := fun _ => fun
  | [d1, d2, d3, d4] => { results := [.lit (.bool false)], args := [d1, d2, d3, d4] }
  | _ => none }
def VecRulesWrongFalsely : Prop := vecRulesRow.holds Try.pinned (OpenSpec.ofChange vecRulesWrong)

/-- 'coupletlaw05.VecSplits': WHATEVER THE INPUT: true; the input reads as it did. -/
def vecSplitsSpec : ChangeSpec := { name := "vecSplits", fn := fun _ => fun
  | [d1, d2] => { results := [.lit (.bool true)], args := [d1, d2] }
  | _ => none }
def vecSplitsRow : OpenClaim := { program := "ytfbioinmgchdcaa", sum := "a0a44a01d91eceb934ce05c562949091ad4874f35c86e904db512399af30ef7d", func := "couplet/coupletlaw05.VecSplits", spec := "vecSplits", unfollowed := true, recurses := true, apart := false }
def VecSplitsSaid : Prop := vecSplitsRow.holds Try.pinned (OpenSpec.ofChange vecSplitsSpec)

/-- ITS FALSE NEIGHBOUR: 'it returns false'. Refute it at one input. -/
def vecSplitsWrong : ChangeSpec := { name := "vecSplits", fn := fun _ => fun
  | [d1, d2] => { results := [.lit (.bool false)], args := [d1, d2] }
  | _ => none }
def VecSplitsWrongFalsely : Prop := vecSplitsRow.holds Try.pinned (OpenSpec.ofChange vecSplitsWrong)

/- THE SECOND FORM. 'bulk': how many values and letters a reading holds, each counted each time it is reached (what is shared counts as often as it is met; a slice's spare places count too). A statement '..UptoSaid' is the law's where the arguments, and the package variables that the reading takes, are together of bulk at most 1048576: NARROWER than '..Said'. Prove '..Said' where nothing that the law and all that it calls make is longer than what came in: it says more and counts as full. Else prove '..UptoSaid'. A law counts once. -/
mutual
def uptoBulk {H : Type} : DataW H → Nat
  | .lit (.string bytes) => bytes.length + 1
  | .lit _ => 1
  | .nil => 1
  | .ptr d => uptoBulk d + 1
  | .slice elems spare => uptoBulkAll elems + uptoBulkAll spare + 1
  | .agg parts => uptoBulkAll parts + 1
  | .iface _ d => uptoBulk d + 1
  | .map entries => uptoBulkEntries entries + 1
  | .held _ => 1
def uptoBulkAll {H : Type} : List (DataW H) → Nat
  | [] => 0
  | d :: r => uptoBulk d + uptoBulkAll r
def uptoBulkEntries {H : Type} : List (Lit × DataW H) → Nat
  | [] => 0
  | x :: r => uptoBulkEntry x + uptoBulkEntries r
def uptoBulkEntry {H : Type} : Lit × DataW H → Nat
  | (.string bytes, d) => bytes.length + uptoBulk d + 1
  | (_, d) => uptoBulk d + 1
 end
def uptoSmall : (H : Type) → List (DataW H) → Bool := fun _ ds => decide (uptoBulkAll ds ≤ 1048576)
def OpenSpec.upto (s : _root_.Go.ChangeSpec) : _root_.Go.OpenSpec := { _root_.Go.OpenSpec.ofChange s with cond := some uptoSmall }

/-- 'coupletlaw05.VecWhole', WHERE WHAT IT READS IS OF BULK AT MOST 1048576: true; the input reads as it did. -/
def vecWholeUptoRow : OpenClaim := { program := "ytfbioinmgchdcaa", sum := "a0a44a01d91eceb934ce05c562949091ad4874f35c86e904db512399af30ef7d", func := "couplet/coupletlaw05.VecWhole", spec := "vecWhole", unfollowed := true, recurses := true, apart := false, narrowed := true }
def VecWholeUptoSaid : Prop := vecWholeUptoRow.holds Try.pinned (OpenSpec.upto vecWholeSpec)

/-- 'coupletlaw05.VecEncloses', WHERE WHAT IT READS IS OF BULK AT MOST 1048576: true; the input reads as it did. -/
def vecEnclosesUptoRow : OpenClaim := { program := "ytfbioinmgchdcaa", sum := "a0a44a01d91eceb934ce05c562949091ad4874f35c86e904db512399af30ef7d", func := "couplet/coupletlaw05.VecEncloses", spec := "vecEncloses", unfollowed := true, recurses := true, named := ["math/bits.divideError", "math/bits.overflowError"], apart := false, narrowed := true }
def VecEnclosesUptoSaid : Prop := vecEnclosesUptoRow.holds Try.pinned (OpenSpec.upto vecEnclosesSpec)

/-- 'coupletlaw05.VecSteps', WHERE WHAT IT READS IS OF BULK AT MOST 1048576: true; the input reads as it did. -/
def vecStepsUptoRow : OpenClaim := { program := "ytfbioinmgchdcaa", sum := "a0a44a01d91eceb934ce05c562949091ad4874f35c86e904db512399af30ef7d", func := "couplet/coupletlaw05.VecSteps", spec := "vecSteps", unfollowed := true, recurses := true, apart := false, narrowed := true }
def VecStepsUptoSaid : Prop := vecStepsUptoRow.holds Try.pinned (OpenSpec.upto vecStepsSpec)

/-- 'coupletlaw05.VecPairs', WHERE WHAT IT READS IS OF BULK AT MOST 1048576: true; the input reads as it did. -/
def vecPairsUptoRow : OpenClaim := { program := "ytfbioinmgchdcaa", sum := "a0a44a01d91eceb934ce05c562949091ad4874f35c86e904db512399af30ef7d", func := "couplet/coupletlaw05.VecPairs", spec := "vecPairs", unfollowed := true, recurses := true, apart := false, narrowed := true }
def VecPairsUptoSaid : Prop := vecPairsUptoRow.holds Try.pinned (OpenSpec.upto vecPairsSpec)

/-- 'coupletlaw05.VecRules', WHERE WHAT IT READS IS OF BULK AT MOST 1048576: true; the input reads as it did. -/
def vecRulesUptoRow : OpenClaim := { program := "ytfbioinmgchdcaa", sum := "a0a44a01d91eceb934ce05c562949091ad4874f35c86e904db512399af30ef7d", func := "couplet/coupletlaw05.VecRules", spec := "vecRules", unfollowed := true, recurses := true, apart := false, narrowed := true }
def VecRulesUptoSaid : Prop := vecRulesUptoRow.holds Try.pinned (OpenSpec.upto vecRulesSpec)

/-- 'coupletlaw05.VecSplits', WHERE WHAT IT READS IS OF BULK AT MOST 1048576: true; the input reads as it did. -/
def vecSplitsUptoRow : OpenClaim := { program := "ytfbioinmgchdcaa", sum := "a0a44a01d91eceb934ce05c562949091ad4874f35c86e904db512399af30ef7d", func := "couplet/coupletlaw05.VecSplits", spec := "vecSplits", unfollowed := true, recurses := true, apart := false, narrowed := true }
def VecSplitsUptoSaid : Prop := vecSplitsUptoRow.holds Try.pinned (OpenSpec.upto vecSplitsSpec)

end Rows
end Go.Proofs.Ytfbioinmgchdcaa
