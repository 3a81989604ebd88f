/-
  No cell of these rows narrows 'for every input' (looked for: loops, veiled, ifaces, maps, wideKeys, modest, calm, conditions, laid).
  DERIVED. THE GIVEN ROWS OF THIS SEAT. 8 by the template 'for every input the law returns true; each argument reads behind the call as it read before'; 0 by the template 'total and deterministic' (their statements: YtgidengfnelggaaTotals.lean).
  GIVEN WITH THE SEED: the statements are not yours to turn. If you find one false, say at which input.
  Laid BY PROGRAM, IN A SANDBOX (cutbox-rows.mjs): the forced cells as the released guide's own fill.sh prints them over the translation 9be758253c792d64… (all of the seat's roots in one cut). By AI agents, Wed Nov 11 2026. No macro, syntax, notation, axiom, sorry.
-/
import Derived.Test.YtgidengfnelggaaChecked
import GoSem.Claim
import GoSem.ClaimJoined
import GoSem.ClaimMapViews
import Derived.JoinedTies
import Derived.KernelRfl
namespace Go.Proofs.Ytgidengfnelggaa
/- THE CELL 'sum', in the pinned program and in every row, IS THE sha256 OF THE DUMP (.gsa) THAT YtgidengfnelggaaProg.lean LOADS. Nothing in Lean hashes anything: it is a label: what it is worth is what the hold of that sum in a sandbox is worth. -/
noncomputable def Try.pinned : Pinned := { name := "ytgidengfnelggaa", sum := "9be758253c792d64d41caa072f6709dffc30706e1ddba64daa2ef9870c23308e", checked := Try.checked }
namespace Rows
def none {H : Type} : Left H := { results := [], args := [] }

/-- 'coupletlaw03.EnvDoes': WHATEVER THE INPUT: true; the input reads as it did. -/
def envDoesSpec : ChangeSpec := { name := "envDoes", fn := fun _ => fun
  | [d1, d2] => { results := [.lit (.bool true)], args := [d1, d2] }
  | _ => none }
def envDoesRow : OpenClaim := { program := "ytgidengfnelggaa", sum := "9be758253c792d64d41caa072f6709dffc30706e1ddba64daa2ef9870c23308e", func := "couplet/coupletlaw03.EnvDoes", spec := "envDoes", unfollowed := true, recurses := true, named := ["math/bits.divideError", "math/bits.overflowError"], apart := false }
def EnvDoesSaid : Prop := envDoesRow.holds Try.pinned (OpenSpec.ofChange envDoesSpec)

/-- ITS FALSE NEIGHBOUR: 'it returns false'. Refute it at one input. -/
def envDoesWrong : ChangeSpec := { name := "envDoes", fn := fun _ => fun
  | [d1, d2] => { results := [.lit (.bool false)], args := [d1, d2] }
  | _ => none }
def EnvDoesWrongFalsely : Prop := envDoesRow.holds Try.pinned (OpenSpec.ofChange envDoesWrong)

/-- 'coupletlaw03.EnvTells': WHATEVER THE INPUT: true; the input reads as it did. -/
def envTellsSpec : ChangeSpec := { name := "envTells", fn := fun _ => fun
  | [d1, d2] => { results := [.lit (.bool true)], args := [d1, d2] }
  | _ => none }
def envTellsRow : OpenClaim := { program := "ytgidengfnelggaa", sum := "9be758253c792d64d41caa072f6709dffc30706e1ddba64daa2ef9870c23308e", func := "couplet/coupletlaw03.EnvTells", spec := "envTells", unfollowed := true, recurses := true, named := ["math/bits.divideError", "math/bits.overflowError"], apart := false }
def EnvTellsSaid : Prop := envTellsRow.holds Try.pinned (OpenSpec.ofChange envTellsSpec)

/-- ITS FALSE NEIGHBOUR: 'it returns false'. Refute it at one input. -/
def envTellsWrong : ChangeSpec := { name := "envTells", fn := fun _ => fun
  | [d1, d2] => { results := [.lit (.bool false)], args := [d1, d2] }
  | _ => none }
def EnvTellsWrongFalsely : Prop := envTellsRow.holds Try.pinned (OpenSpec.ofChange envTellsWrong)

/-- 'coupletlaw03.EnvEncloses': WHATEVER THE INPUT: true; the input reads as it did. -/
def envEnclosesSpec : ChangeSpec := { name := "envEncloses", fn := fun _ => fun
  | [d1, d2, d3, d4] => { results := [.lit (.bool true)], args := [d1, d2, d3, d4] }
  | _ => none }
def envEnclosesRow : OpenClaim := { program := "ytgidengfnelggaa", sum := "9be758253c792d64d41caa072f6709dffc30706e1ddba64daa2ef9870c23308e", func := "couplet/coupletlaw03.EnvEncloses", spec := "envEncloses", unfollowed := true, recurses := true, named := ["math/bits.divideError", "math/bits.overflowError"], apart := false }
def EnvEnclosesSaid : Prop := envEnclosesRow.holds Try.pinned (OpenSpec.ofChange envEnclosesSpec)

/-- ITS FALSE NEIGHBOUR: 'it returns false'. Refute it at one input. -/
def envEnclosesWrong : ChangeSpec := { name := "envEncloses", fn := fun _ => fun
  | [d1, d2, d3, d4] => { results := [.lit (.bool false)], args := [d1, d2, d3, d4] }
  | _ => none }
def EnvEnclosesWrongFalsely : Prop := envEnclosesRow.holds Try.pinned (OpenSpec.ofChange envEnclosesWrong)

/-- 'coupletlaw03.EnvFine': WHATEVER THE INPUT: true; the input reads as it did. -/
def envFineSpec : ChangeSpec := { name := "envFine", fn := fun _ => fun
  | [d1, d2] => { results := [.lit (.bool true)], args := [d1, d2] }
  | _ => none }
def envFineRow : OpenClaim := { program := "ytgidengfnelggaa", sum := "9be758253c792d64d41caa072f6709dffc30706e1ddba64daa2ef9870c23308e", func := "couplet/coupletlaw03.EnvFine", spec := "envFine", unfollowed := true, recurses := true, named := ["math/bits.divideError", "math/bits.overflowError"], apart := false }
def EnvFineSaid : Prop := envFineRow.holds Try.pinned (OpenSpec.ofChange envFineSpec)

/-- ITS FALSE NEIGHBOUR: 'it returns false'. Refute it at one input. -/
def envFineWrong : ChangeSpec := { name := "envFine", fn := fun _ => fun
  | [d1, d2] => { results := [.lit (.bool false)], args := [d1, d2] }
  | _ => none }
def EnvFineWrongFalsely : Prop := envFineRow.holds Try.pinned (OpenSpec.ofChange envFineWrong)

/-- 'coupletlaw03.EnvHolds': WHATEVER THE INPUT: true; the input reads as it did. -/
def envHoldsSpec : ChangeSpec := { name := "envHolds", fn := fun _ => fun
  | [d1, d2, d3, d4] => { results := [.lit (.bool true)], args := [d1, d2, d3, d4] }
  | _ => none }
def envHoldsRow : OpenClaim := { program := "ytgidengfnelggaa", sum := "9be758253c792d64d41caa072f6709dffc30706e1ddba64daa2ef9870c23308e", func := "couplet/coupletlaw03.EnvHolds", spec := "envHolds", unfollowed := true, recurses := true, named := ["math/bits.divideError", "math/bits.overflowError"], apart := false }
def EnvHoldsSaid : Prop := envHoldsRow.holds Try.pinned (OpenSpec.ofChange envHoldsSpec)

/-- ITS FALSE NEIGHBOUR: 'it returns false'. Refute it at one input. -/
def envHoldsWrong : ChangeSpec := { name := "envHolds", fn := fun _ => fun
  | [d1, d2, d3, d4] => { results := [.lit (.bool false)], args := [d1, d2, d3, d4] }
  | _ => none }
def EnvHoldsWrongFalsely : Prop := envHoldsRow.holds Try.pinned (OpenSpec.ofChange envHoldsWrong)

/-- 'coupletlaw03.EnvExact': WHATEVER THE INPUT: true; the input reads as it did. -/
def envExactSpec : ChangeSpec := { name := "envExact", fn := fun _ => fun
  | [d1, d2] => { results := [.lit (.bool true)], args := [d1, d2] }
  | _ => none }
def envExactRow : OpenClaim := { program := "ytgidengfnelggaa", sum := "9be758253c792d64d41caa072f6709dffc30706e1ddba64daa2ef9870c23308e", func := "couplet/coupletlaw03.EnvExact", spec := "envExact", unfollowed := true, recurses := true, named := ["math/bits.divideError", "math/bits.overflowError"], apart := false }
def EnvExactSaid : Prop := envExactRow.holds Try.pinned (OpenSpec.ofChange envExactSpec)

/-- ITS FALSE NEIGHBOUR: 'it returns false'. Refute it at one input. -/
def envExactWrong : ChangeSpec := { name := "envExact", fn := fun _ => fun
  | [d1, d2] => { results := [.lit (.bool false)], args := [d1, d2] }
  | _ => none }
def EnvExactWrongFalsely : Prop := envExactRow.holds Try.pinned (OpenSpec.ofChange envExactWrong)

/-- 'coupletlaw03.EnvOrder': WHATEVER THE INPUT: true; the input reads as it did. -/
def envOrderSpec : ChangeSpec := { name := "envOrder", fn := fun _ => fun
  | [d1, d2] => { results := [.lit (.bool true)], args := [d1, d2] }
  | _ => none }
def envOrderRow : OpenClaim := { program := "ytgidengfnelggaa", sum := "9be758253c792d64d41caa072f6709dffc30706e1ddba64daa2ef9870c23308e", func := "couplet/coupletlaw03.EnvOrder", spec := "envOrder", unfollowed := true, recurses := true, named := ["math/bits.divideError", "math/bits.overflowError"], apart := false }
def EnvOrderSaid : Prop := envOrderRow.holds Try.pinned (OpenSpec.ofChange envOrderSpec)

/-- ITS FALSE NEIGHBOUR: 'it returns false'. Refute it at one input. -/
def envOrderWrong : ChangeSpec := { name := "envOrder", fn := fun _ => fun
  | [d1, d2] => { results := [.lit (.bool false)], args := [d1, d2] }
  | _ => none }
def EnvOrderWrongFalsely : Prop := envOrderRow.holds Try.pinned (OpenSpec.ofChange envOrderWrong)

/-- 'coupletlaw03.EnvPoints': WHATEVER THE INPUT: true; the input reads as it did. -/
def envPointsSpec : ChangeSpec := { name := "envPoints", fn := fun _ => fun
  | [d1, d2] => { results := [.lit (.bool true)], args := [d1, d2] }
  | _ => none }
def envPointsRow : OpenClaim := { program := "ytgidengfnelggaa", sum := "9be758253c792d64d41caa072f6709dffc30706e1ddba64daa2ef9870c23308e", func := "couplet/coupletlaw03.EnvPoints", spec := "envPoints", unfollowed := true, recurses := true, named := ["math/bits.divideError", "math/bits.overflowError"], apart := false }
def EnvPointsSaid : Prop := envPointsRow.holds Try.pinned (OpenSpec.ofChange envPointsSpec)

/-- ITS FALSE NEIGHBOUR: 'it returns false'. Refute it at one input. -/
def envPointsWrong : ChangeSpec := { name := "envPoints", fn := fun _ => fun
  | [d1, d2] => { results := [.lit (.bool false)], args := [d1, d2] }
  | _ => none }
def EnvPointsWrongFalsely : Prop := envPointsRow.holds Try.pinned (OpenSpec.ofChange envPointsWrong)

/- THE SECOND FORM. 'bulk': how many values and letters a reading holds, each counted each time it is reached (what is shared counts as often as it is met; a slice's spare places count too). A statement '..UptoSaid' is the law's where the arguments, and the package variables that the reading takes, are together of bulk at most 1048576: NARROWER than '..Said'. Prove '..Said' where nothing that the law and all that it calls make is longer than what came in: it says more and counts as full. Else prove '..UptoSaid'. A law counts once. -/
mutual
def uptoBulk {H : Type} : DataW H → Nat
  | .lit (.string bytes) => bytes.length + 1
  | .lit _ => 1
  | .nil => 1
  | .ptr d => uptoBulk d + 1
  | .slice elems spare => uptoBulkAll elems + uptoBulkAll spare + 1
  | .agg parts => uptoBulkAll parts + 1
  | .iface _ d => uptoBulk d + 1
  | .map entries => uptoBulkEntries entries + 1
  | .held _ => 1
def uptoBulkAll {H : Type} : List (DataW H) → Nat
  | [] => 0
  | d :: r => uptoBulk d + uptoBulkAll r
def uptoBulkEntries {H : Type} : List (Lit × DataW H) → Nat
  | [] => 0
  | x :: r => uptoBulkEntry x + uptoBulkEntries r
def uptoBulkEntry {H : Type} : Lit × DataW H → Nat
  | (.string bytes, d) => bytes.length + uptoBulk d + 1
  | (_, d) => uptoBulk d + 1
 end
def uptoSmall : (H : Type) → List (DataW H) → Bool := fun _ ds => decide (uptoBulkAll ds ≤ 1048576)
def OpenSpec.upto (s : _root_.Go.ChangeSpec) : _root_.Go.OpenSpec := { _root_.Go.OpenSpec.ofChange s with cond := some uptoSmall }

/-- 'coupletlaw03.EnvDoes', WHERE WHAT IT READS IS OF BULK AT MOST 1048576: true; the input reads as it did. -/
def envDoesUptoRow : OpenClaim := { program := "ytgidengfnelggaa", sum := "9be758253c792d64d41caa072f6709dffc30706e1ddba64daa2ef9870c23308e", func := "couplet/coupletlaw03.EnvDoes", spec := "envDoes", unfollowed := true, recurses := true, named := ["math/bits.divideError", "math/bits.overflowError"], apart := false, narrowed := true }
def EnvDoesUptoSaid : Prop := envDoesUptoRow.holds Try.pinned (OpenSpec.upto envDoesSpec)

/-- 'coupletlaw03.EnvTells', WHERE WHAT IT READS IS OF BULK AT MOST 1048576: true; the input reads as it did. -/
def envTellsUptoRow : OpenClaim := { program := "ytgidengfnelggaa", sum := "9be758253c792d64d41caa072f6709dffc30706e1ddba64daa2ef9870c23308e", func := "couplet/coupletlaw03.EnvTells", spec := "envTells", unfollowed := true, recurses := true, named := ["math/bits.divideError", "math/bits.overflowError"], apart := false, narrowed := true }
def EnvTellsUptoSaid : Prop := envTellsUptoRow.holds Try.pinned (OpenSpec.upto envTellsSpec)

/-- 'coupletlaw03.EnvEncloses', WHERE WHAT IT READS IS OF BULK AT MOST 1048576: true; the input reads as it did. -/
def envEnclosesUptoRow : OpenClaim := { program := "ytgidengfnelggaa", sum := "9be758253c792d64d41caa072f6709dffc30706e1ddba64daa2ef9870c23308e", func := "couplet/coupletlaw03.EnvEncloses", spec := "envEncloses", unfollowed := true, recurses := true, named := ["math/bits.divideError", "math/bits.overflowError"], apart := false, narrowed := true }
def EnvEnclosesUptoSaid : Prop := envEnclosesUptoRow.holds Try.pinned (OpenSpec.upto envEnclosesSpec)

/-- 'coupletlaw03.EnvFine', WHERE WHAT IT READS IS OF BULK AT MOST 1048576: true; the input reads as it did. -/
def envFineUptoRow : OpenClaim := { program := "ytgidengfnelggaa", sum := "9be758253c792d64d41caa072f6709dffc30706e1ddba64daa2ef9870c23308e", func := "couplet/coupletlaw03.EnvFine", spec := "envFine", unfollowed := true, recurses := true, named := ["math/bits.divideError", "math/bits.overflowError"], apart := false, narrowed := true }
def EnvFineUptoSaid : Prop := envFineUptoRow.holds Try.pinned (OpenSpec.upto envFineSpec)

/-- 'coupletlaw03.EnvHolds', WHERE WHAT IT READS IS OF BULK AT MOST 1048576: true; the input reads as it did. -/
def envHoldsUptoRow : OpenClaim := { program := "ytgidengfnelggaa", sum := "9be758253c792d64d41caa072f6709dffc30706e1ddba64daa2ef9870c23308e", func := "couplet/coupletlaw03.EnvHolds", spec := "envHolds", unfollowed := true, recurses := true, named := ["math/bits.divideError", "math/bits.overflowError"], apart := false, narrowed := true }
def EnvHoldsUptoSaid : Prop := envHoldsUptoRow.holds Try.pinned (OpenSpec.upto envHoldsSpec)

/-- 'coupletlaw03.EnvExact', WHERE WHAT IT READS IS OF BULK AT MOST 1048576: true; the input reads as it did. -/
def envExactUptoRow : OpenClaim := { program := "ytgidengfnelggaa", sum := "9be758253c792d64d41caa072f6709dffc30706e1ddba64daa2ef9870c23308e", func := "couplet/coupletlaw03.EnvExact", spec := "envExact", unfollowed := true, recurses := true, named := ["math/bits.divideError", "math/bits.overflowError"], apart := false, narrowed := true }
def EnvExactUptoSaid : Prop := envExactUptoRow.holds Try.pinned (OpenSpec.upto envExactSpec)

/-- 'coupletlaw03.EnvOrder', WHERE WHAT IT READS IS OF BULK AT MOST 1048576: true; the input reads as it did. -/
def envOrderUptoRow : OpenClaim := { program := "ytgidengfnelggaa", sum := "9be758253c792d64d41caa072f6709dffc30706e1ddba64daa2ef9870c23308e", func := "couplet/coupletlaw03.EnvOrder", spec := "envOrder", unfollowed := true, recurses := true, named := ["math/bits.divideError", "math/bits.overflowError"], apart := false, narrowed := true }
def EnvOrderUptoSaid : Prop := envOrderUptoRow.holds Try.pinned (OpenSpec.upto envOrderSpec)

/-- 'coupletlaw03.EnvPoints', WHERE WHAT IT READS IS OF BULK AT MOST 1048576: true; the input reads as it did. -/
def envPointsUptoRow : OpenClaim := { program := "ytgidengfnelggaa", sum := "9be758253c792d64d41caa072f6709dffc30706e1ddba64daa2ef9870c23308e", func := "couplet/coupletlaw03.EnvPoints", spec := "envPoints", unfollowed := true, recurses := true, named := ["math/bits.divideError", "math/bits.overflowError"], apart := false, narrowed := true }
def EnvPointsUptoSaid : Prop := envPointsUptoRow.holds Try.pinned (OpenSpec.upto envPointsSpec)

end Rows
end Go.Proofs.Ytgidengfnelggaa
