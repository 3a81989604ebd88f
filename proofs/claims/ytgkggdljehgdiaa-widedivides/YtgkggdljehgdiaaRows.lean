/-
  No cell of these rows narrows 'for every input' (looked for: loops, veiled, ifaces, maps, wideKeys, modest, calm, conditions, laid).
  DERIVED. THE GIVEN ROWS OF THIS SEAT. 8 by the template 'for every input the law returns true; each argument reads behind the call as it read before'; 0 by the template 'total and deterministic' (their statements: YtgkggdljehgdiaaTotals.lean).
  GIVEN WITH THE SEED: the statements are not yours to turn. If you find one false, say at which input.
  Laid BY PROGRAM, IN A SANDBOX (cutbox-rows.mjs): the forced cells as the released guide's own fill.sh prints them over the translation 04bee91c7e571668… (all of the seat's roots in one cut). By AI agents, Wed Nov 11 2026. No macro, syntax, notation, axiom, sorry.
-/
import Derived.Test.YtgkggdljehgdiaaChecked
import GoSem.Claim
import GoSem.ClaimJoined
import GoSem.ClaimMapViews
import Derived.JoinedTies
import Derived.KernelRfl
namespace Go.Proofs.Ytgkggdljehgdiaa
/- THE CELL 'sum', in the pinned program and in every row, IS THE sha256 OF THE DUMP (.gsa) THAT YtgkggdljehgdiaaProg.lean LOADS. Nothing in Lean hashes anything: it is a label: what it is worth is what the hold of that sum in a sandbox is worth. -/
noncomputable def Try.pinned : Pinned := { name := "ytgkggdljehgdiaa", sum := "04bee91c7e5716681d48e73f509f278b238c75a329797a542273747d7ac842ad", checked := Try.checked }
namespace Rows
def none {H : Type} : Left H := { results := [], args := [] }

/-- 'coupletlaw01.WideDivides': WHATEVER THE INPUT: true; the input reads as it did. -/
def wideDividesSpec : ChangeSpec := { name := "wideDivides", fn := fun _ => fun
  | [d1, d2, d3, d4] => { results := [.lit (.bool true)], args := [d1, d2, d3, d4] }
  | _ => none }
def wideDividesRow : OpenClaim := { program := "ytgkggdljehgdiaa", sum := "04bee91c7e5716681d48e73f509f278b238c75a329797a542273747d7ac842ad", func := "couplet/coupletlaw01.WideDivides", spec := "wideDivides", named := ["math/bits.divideError", "math/bits.overflowError"], apart := false }
def WideDividesSaid : Prop := wideDividesRow.holds Try.pinned (OpenSpec.ofChange wideDividesSpec)

/-- ITS FALSE NEIGHBOUR: 'it returns false'. Refute it at one input. -/
def wideDividesWrong : ChangeSpec := { name := "wideDivides", fn := fun _ => fun
  | [d1, d2, d3, d4] => { results := [.lit (.bool false)], args := [d1, d2, d3, d4] }
  | _ => none }
def WideDividesWrongFalsely : Prop := wideDividesRow.holds Try.pinned (OpenSpec.ofChange wideDividesWrong)

/-- 'coupletlaw01.WideCompares': WHATEVER THE INPUT: true; the input reads as it did. -/
def wideComparesSpec : ChangeSpec := { name := "wideCompares", fn := fun _ => fun
  | [d1, d2, d3, d4] => { results := [.lit (.bool true)], args := [d1, d2, d3, d4] }
  | _ => none }
def wideComparesRow : OpenClaim := { program := "ytgkggdljehgdiaa", sum := "04bee91c7e5716681d48e73f509f278b238c75a329797a542273747d7ac842ad", func := "couplet/coupletlaw01.WideCompares", spec := "wideCompares", named := ["math/bits.divideError", "math/bits.overflowError"], apart := false }
def WideComparesSaid : Prop := wideComparesRow.holds Try.pinned (OpenSpec.ofChange wideComparesSpec)

/-- ITS FALSE NEIGHBOUR: 'it returns false'. Refute it at one input. -/
def wideComparesWrong : ChangeSpec := { name := "wideCompares", fn := fun _ => fun
  | [d1, d2, d3, d4] => { results := [.lit (.bool false)], args := [d1, d2, d3, d4] }
  | _ => none }
def WideComparesWrongFalsely : Prop := wideComparesRow.holds Try.pinned (OpenSpec.ofChange wideComparesWrong)

/-- 'coupletlaw01.WideRoots': WHATEVER THE INPUT: true; the input reads as it did. -/
def wideRootsSpec : ChangeSpec := { name := "wideRoots", fn := fun _ => fun
  | [d1, d2] => { results := [.lit (.bool true)], args := [d1, d2] }
  | _ => none }
def wideRootsRow : OpenClaim := { program := "ytgkggdljehgdiaa", sum := "04bee91c7e5716681d48e73f509f278b238c75a329797a542273747d7ac842ad", func := "couplet/coupletlaw01.WideRoots", spec := "wideRoots", named := ["math/bits.divideError", "math/bits.overflowError"], apart := false }
def WideRootsSaid : Prop := wideRootsRow.holds Try.pinned (OpenSpec.ofChange wideRootsSpec)

/-- ITS FALSE NEIGHBOUR: 'it returns false'. Refute it at one input. -/
def wideRootsWrong : ChangeSpec := { name := "wideRoots", fn := fun _ => fun
  | [d1, d2] => { results := [.lit (.bool false)], args := [d1, d2] }
  | _ => none }
def WideRootsWrongFalsely : Prop := wideRootsRow.holds Try.pinned (OpenSpec.ofChange wideRootsWrong)

/-- 'coupletlaw01.WideNearest': WHATEVER THE INPUT: true; the input reads as it did. -/
def wideNearestSpec : ChangeSpec := { name := "wideNearest", fn := fun _ => fun
  | [d1, d2] => { results := [.lit (.bool true)], args := [d1, d2] }
  | _ => none }
def wideNearestRow : OpenClaim := { program := "ytgkggdljehgdiaa", sum := "04bee91c7e5716681d48e73f509f278b238c75a329797a542273747d7ac842ad", func := "couplet/coupletlaw01.WideNearest", spec := "wideNearest", named := ["math/bits.divideError", "math/bits.overflowError"], apart := false }
def WideNearestSaid : Prop := wideNearestRow.holds Try.pinned (OpenSpec.ofChange wideNearestSpec)

/-- ITS FALSE NEIGHBOUR: 'it returns false'. Refute it at one input. -/
def wideNearestWrong : ChangeSpec := { name := "wideNearest", fn := fun _ => fun
  | [d1, d2] => { results := [.lit (.bool false)], args := [d1, d2] }
  | _ => none }
def WideNearestWrongFalsely : Prop := wideNearestRow.holds Try.pinned (OpenSpec.ofChange wideNearestWrong)

/-- 'coupletlaw01.WideModes': WHATEVER THE INPUT: true; the input reads as it did. -/
def wideModesSpec : ChangeSpec := { name := "wideModes", fn := fun _ => fun
  | [d1, d2, d3, d4] => { results := [.lit (.bool true)], args := [d1, d2, d3, d4] }
  | _ => none }
def wideModesRow : OpenClaim := { program := "ytgkggdljehgdiaa", sum := "04bee91c7e5716681d48e73f509f278b238c75a329797a542273747d7ac842ad", func := "couplet/coupletlaw01.WideModes", spec := "wideModes", named := ["math/bits.divideError", "math/bits.overflowError"], apart := false }
def WideModesSaid : Prop := wideModesRow.holds Try.pinned (OpenSpec.ofChange wideModesSpec)

/-- ITS FALSE NEIGHBOUR: 'it returns false'. Refute it at one input. -/
def wideModesWrong : ChangeSpec := { name := "wideModes", fn := fun _ => fun
  | [d1, d2, d3, d4] => { results := [.lit (.bool false)], args := [d1, d2, d3, d4] }
  | _ => none }
def WideModesWrongFalsely : Prop := wideModesRow.holds Try.pinned (OpenSpec.ofChange wideModesWrong)

/-- 'coupletlaw01.WideBack': WHATEVER THE INPUT: true; the input reads as it did. -/
def wideBackSpec : ChangeSpec := { name := "wideBack", fn := fun _ => fun
  | [d1, d2, d3] => { results := [.lit (.bool true)], args := [d1, d2, d3] }
  | _ => none }
def wideBackRow : OpenClaim := { program := "ytgkggdljehgdiaa", sum := "04bee91c7e5716681d48e73f509f278b238c75a329797a542273747d7ac842ad", func := "couplet/coupletlaw01.WideBack", spec := "wideBack", named := ["math/bits.divideError", "math/bits.overflowError"], apart := false }
def WideBackSaid : Prop := wideBackRow.holds Try.pinned (OpenSpec.ofChange wideBackSpec)

/-- ITS FALSE NEIGHBOUR: 'it returns false'. Refute it at one input. -/
def wideBackWrong : ChangeSpec := { name := "wideBack", fn := fun _ => fun
  | [d1, d2, d3] => { results := [.lit (.bool false)], args := [d1, d2, d3] }
  | _ => none }
def WideBackWrongFalsely : Prop := wideBackRow.holds Try.pinned (OpenSpec.ofChange wideBackWrong)

/-- 'coupletlaw01.WideSigns': WHATEVER THE INPUT: true; the input reads as it did. -/
def wideSignsSpec : ChangeSpec := { name := "wideSigns", fn := fun _ => fun
  | [d1, d2, d3] => { results := [.lit (.bool true)], args := [d1, d2, d3] }
  | _ => none }
def wideSignsRow : OpenClaim := { program := "ytgkggdljehgdiaa", sum := "04bee91c7e5716681d48e73f509f278b238c75a329797a542273747d7ac842ad", func := "couplet/coupletlaw01.WideSigns", spec := "wideSigns", named := ["math/bits.divideError", "math/bits.overflowError"], apart := false }
def WideSignsSaid : Prop := wideSignsRow.holds Try.pinned (OpenSpec.ofChange wideSignsSpec)

/-- ITS FALSE NEIGHBOUR: 'it returns false'. Refute it at one input. -/
def wideSignsWrong : ChangeSpec := { name := "wideSigns", fn := fun _ => fun
  | [d1, d2, d3] => { results := [.lit (.bool false)], args := [d1, d2, d3] }
  | _ => none }
def WideSignsWrongFalsely : Prop := wideSignsRow.holds Try.pinned (OpenSpec.ofChange wideSignsWrong)

/-- 'coupletlaw01.WideSquares': WHATEVER THE INPUT: true; the input reads as it did. -/
def wideSquaresSpec : ChangeSpec := { name := "wideSquares", fn := fun _ => fun
  | [d] => { results := [.lit (.bool true)], args := [d] }
  | _ => none }
def wideSquaresRow : OpenClaim := { program := "ytgkggdljehgdiaa", sum := "04bee91c7e5716681d48e73f509f278b238c75a329797a542273747d7ac842ad", func := "couplet/coupletlaw01.WideSquares", spec := "wideSquares", named := ["math/bits.divideError", "math/bits.overflowError"], apart := false }
def WideSquaresSaid : Prop := wideSquaresRow.holds Try.pinned (OpenSpec.ofChange wideSquaresSpec)

/-- ITS FALSE NEIGHBOUR: 'it returns false'. Refute it at one input. -/
def wideSquaresWrong : ChangeSpec := { name := "wideSquares", fn := fun _ => fun
  | [d] => { results := [.lit (.bool false)], args := [d] }
  | _ => none }
def WideSquaresWrongFalsely : Prop := wideSquaresRow.holds Try.pinned (OpenSpec.ofChange wideSquaresWrong)

/- THE SECOND FORM. 'bulk': how many values and letters a reading holds, each counted each time it is reached (what is shared counts as often as it is met; a slice's spare places count too). A statement '..UptoSaid' is the law's where the arguments, and the package variables that the reading takes, are together of bulk at most 1048576: NARROWER than '..Said'. Prove '..Said' where nothing that the law and all that it calls make is longer than what came in: it says more and counts as full. Else prove '..UptoSaid'. A law counts once. -/
mutual
def uptoBulk {H : Type} : DataW H → Nat
  | .lit (.string bytes) => bytes.length + 1
  | .lit _ => 1
  | .nil => 1
  | .ptr d => uptoBulk d + 1
  | .slice elems spare => uptoBulkAll elems + uptoBulkAll spare + 1
  | .agg parts => uptoBulkAll parts + 1
  | .iface _ d => uptoBulk d + 1
  | .map entries => uptoBulkEntries entries + 1
  | .held _ => 1
def uptoBulkAll {H : Type} : List (DataW H) → Nat
  | [] => 0
  | d :: r => uptoBulk d + uptoBulkAll r
def uptoBulkEntries {H : Type} : List (Lit × DataW H) → Nat
  | [] => 0
  | x :: r => uptoBulkEntry x + uptoBulkEntries r
def uptoBulkEntry {H : Type} : Lit × DataW H → Nat
  | (.string bytes, d) => bytes.length + uptoBulk d + 1
  | (_, d) => uptoBulk d + 1
 end
def uptoSmall : (H : Type) → List (DataW H) → Bool := fun _ ds => decide (uptoBulkAll ds ≤ 1048576)
def OpenSpec.upto (s : _root_.Go.ChangeSpec) : _root_.Go.OpenSpec := { _root_.Go.OpenSpec.ofChange s with cond := some uptoSmall }

/-- 'coupletlaw01.WideDivides', WHERE WHAT IT READS IS OF BULK AT MOST 1048576: true; the input reads as it did. -/
def wideDividesUptoRow : OpenClaim := { program := "ytgkggdljehgdiaa", sum := "04bee91c7e5716681d48e73f509f278b238c75a329797a542273747d7ac842ad", func := "couplet/coupletlaw01.WideDivides", spec := "wideDivides", named := ["math/bits.divideError", "math/bits.overflowError"], apart := false, narrowed := true }
def WideDividesUptoSaid : Prop := wideDividesUptoRow.holds Try.pinned (OpenSpec.upto wideDividesSpec)

/-- 'coupletlaw01.WideCompares', WHERE WHAT IT READS IS OF BULK AT MOST 1048576: true; the input reads as it did. -/
def wideComparesUptoRow : OpenClaim := { program := "ytgkggdljehgdiaa", sum := "04bee91c7e5716681d48e73f509f278b238c75a329797a542273747d7ac842ad", func := "couplet/coupletlaw01.WideCompares", spec := "wideCompares", named := ["math/bits.divideError", "math/bits.overflowError"], apart := false, narrowed := true }
def WideComparesUptoSaid : Prop := wideComparesUptoRow.holds Try.pinned (OpenSpec.upto wideComparesSpec)

/-- 'coupletlaw01.WideRoots', WHERE WHAT IT READS IS OF BULK AT MOST 1048576: true; the input reads as it did. -/
def wideRootsUptoRow : OpenClaim := { program := "ytgkggdljehgdiaa", sum := "04bee91c7e5716681d48e73f509f278b238c75a329797a542273747d7ac842ad", func := "couplet/coupletlaw01.WideRoots", spec := "wideRoots", named := ["math/bits.divideError", "math/bits.overflowError"], apart := false, narrowed := true }
def WideRootsUptoSaid : Prop := wideRootsUptoRow.holds Try.pinned (OpenSpec.upto wideRootsSpec)

/-- 'coupletlaw01.WideNearest', WHERE WHAT IT READS IS OF BULK AT MOST 1048576: true; the input reads as it did. -/
def wideNearestUptoRow : OpenClaim := { program := "ytgkggdljehgdiaa", sum := "04bee91c7e5716681d48e73f509f278b238c75a329797a542273747d7ac842ad", func := "couplet/coupletlaw01.WideNearest", spec := "wideNearest", named := ["math/bits.divideError", "math/bits.overflowError"], apart := false, narrowed := true }
def WideNearestUptoSaid : Prop := wideNearestUptoRow.holds Try.pinned (OpenSpec.upto wideNearestSpec)

/-- 'coupletlaw01.WideModes', WHERE WHAT IT READS IS OF BULK AT MOST 1048576: true; the input reads as it did. -/
def wideModesUptoRow : OpenClaim := { program := "ytgkggdljehgdiaa", sum := "04bee91c7e5716681d48e73f509f278b238c75a329797a542273747d7ac842ad", func := "couplet/coupletlaw01.WideModes", spec := "wideModes", named := ["math/bits.divideError", "math/bits.overflowError"], apart := false, narrowed := true }
def WideModesUptoSaid : Prop := wideModesUptoRow.holds Try.pinned (OpenSpec.upto wideModesSpec)

/-- 'coupletlaw01.WideBack', WHERE WHAT IT READS IS OF BULK AT MOST 1048576: true; the input reads as it did. -/
def wideBackUptoRow : OpenClaim := { program := "ytgkggdljehgdiaa", sum := "04bee91c7e5716681d48e73f509f278b238c75a329797a542273747d7ac842ad", func := "couplet/coupletlaw01.WideBack", spec := "wideBack", named := ["math/bits.divideError", "math/bits.overflowError"], apart := false, narrowed := true }
def WideBackUptoSaid : Prop := wideBackUptoRow.holds Try.pinned (OpenSpec.upto wideBackSpec)

/-- 'coupletlaw01.WideSigns', WHERE WHAT IT READS IS OF BULK AT MOST 1048576: true; the input reads as it did. -/
def wideSignsUptoRow : OpenClaim := { program := "ytgkggdljehgdiaa", sum := "04bee91c7e5716681d48e73f509f278b238c75a329797a542273747d7ac842ad", func := "couplet/coupletlaw01.WideSigns", spec := "wideSigns", named := ["math/bits.divideError", "math/bits.overflowError"], apart := false, narrowed := true }
def WideSignsUptoSaid : Prop := wideSignsUptoRow.holds Try.pinned (OpenSpec.upto wideSignsSpec)

/-- 'coupletlaw01.WideSquares', WHERE WHAT IT READS IS OF BULK AT MOST 1048576: true; the input reads as it did. -/
def wideSquaresUptoRow : OpenClaim := { program := "ytgkggdljehgdiaa", sum := "04bee91c7e5716681d48e73f509f278b238c75a329797a542273747d7ac842ad", func := "couplet/coupletlaw01.WideSquares", spec := "wideSquares", named := ["math/bits.divideError", "math/bits.overflowError"], apart := false, narrowed := true }
def WideSquaresUptoSaid : Prop := wideSquaresUptoRow.holds Try.pinned (OpenSpec.upto wideSquaresSpec)

end Rows
end Go.Proofs.Ytgkggdljehgdiaa
