/-
  No cell of these rows narrows 'for every input' (looked for: loops, veiled, ifaces, maps, wideKeys, modest, calm, conditions, laid).
  DERIVED. THE GIVEN ROWS OF THIS SEAT. 5 by the template 'for every input the law returns true; each argument reads behind the call as it read before'; 0 by the template 'total and deterministic' (their statements: YtafjmogkiohjgaaGreatTotals.lean).
  GIVEN WITH THE SEED: the statements are not yours to turn. If you find one false, say at which input.
  Laid BY PROGRAM, IN A SANDBOX (cutbox-rows.mjs): the forced cells as the released guide's own fill.sh prints them over the translation 134eea4c41c76db7… (all of the seat's roots in one cut). By AI agents, Wed Nov 11 2026. No macro, syntax, notation, axiom, sorry.
-/
import Derived.Test.YtafjmogkiohjgaaGreatChecked
import GoSem.Claim
import GoSem.ClaimJoined
import GoSem.ClaimMapViews
import Derived.JoinedTies
import Derived.KernelRfl
namespace Go.Proofs.YtafjmogkiohjgaaGreat
/- THE CELL 'sum', in the pinned program and in every row, IS THE sha256 OF THE DUMP (.gsa) THAT YtafjmogkiohjgaaGreatProg.lean LOADS. Nothing in Lean hashes anything: it is a label: what it is worth is what the hold of that sum in a sandbox is worth. -/
noncomputable def Tryz.pinned : Pinned := { name := "ytafjmogkiohjgaagreat", sum := "134eea4c41c76db7d31eee2652a84d4efabe568a51d9ee31d09968c07997b7b9", checked := Tryz.checked }
namespace Rows
def none {H : Type} : Left H := { results := [], args := [] }

/-- 'coupletlaw08.HouseFolds': WHATEVER THE INPUT: true; the input reads as it did. -/
def houseFoldsSpec : ChangeSpec := { name := "houseFolds", fn := fun _ => fun
  | [d1, d2, d3] => { results := [.lit (.bool true)], args := [d1, d2, d3] }
  | _ => none }
def houseFoldsRow : OpenClaim := { program := "ytafjmogkiohjgaagreat", sum := "134eea4c41c76db7d31eee2652a84d4efabe568a51d9ee31d09968c07997b7b9", func := "couplet/coupletlaw08.HouseFolds", spec := "houseFolds", unfollowed := true, recurses := true, apart := false }
def HouseFoldsSaid : Prop := houseFoldsRow.holds Tryz.pinned (OpenSpec.ofChange houseFoldsSpec)

/-- ITS FALSE NEIGHBOUR: 'it returns false'. Refute it at one input. -/
def houseFoldsWrong : ChangeSpec := { name := "houseFolds", fn := fun _ => fun
  | [d1, d2, d3] => { results := [.lit (.bool false)], args := [d1, d2, d3] }
  | _ => none }
def HouseFoldsWrongFalsely : Prop := houseFoldsRow.holds Tryz.pinned (OpenSpec.ofChange houseFoldsWrong)

/-- 'coupletlaw08.HouseSquares': WHATEVER THE INPUT: true; the input reads as it did. -/
def houseSquaresSpec : ChangeSpec := { name := "houseSquares", fn := fun _ => fun
  | [d1, d2, d3] => { results := [.lit (.bool true)], args := [d1, d2, d3] }
  | _ => none }
def houseSquaresRow : OpenClaim := { program := "ytafjmogkiohjgaagreat", sum := "134eea4c41c76db7d31eee2652a84d4efabe568a51d9ee31d09968c07997b7b9", func := "couplet/coupletlaw08.HouseSquares", spec := "houseSquares", unfollowed := true, recurses := true, named := ["math/bits.divideError", "math/bits.overflowError"], apart := false }
def HouseSquaresSaid : Prop := houseSquaresRow.holds Tryz.pinned (OpenSpec.ofChange houseSquaresSpec)

/-- ITS FALSE NEIGHBOUR: 'it returns false'. Refute it at one input. -/
def houseSquaresWrong : ChangeSpec := { name := "houseSquares", fn := fun _ => fun
  | [d1, d2, d3] => { results := [.lit (.bool false)], args := [d1, d2, d3] }
  | _ => none }
def HouseSquaresWrongFalsely : Prop := houseSquaresRow.holds Tryz.pinned (OpenSpec.ofChange houseSquaresWrong)

/-- 'coupletlaw08.HouseSigns': WHATEVER THE INPUT: true; the input reads as it did. -/
def houseSignsSpec : ChangeSpec := { name := "houseSigns", fn := fun _ => fun
  | [d1, d2] => { results := [.lit (.bool true)], args := [d1, d2] }
  | _ => none }
def houseSignsRow : OpenClaim := { program := "ytafjmogkiohjgaagreat", sum := "134eea4c41c76db7d31eee2652a84d4efabe568a51d9ee31d09968c07997b7b9", func := "couplet/coupletlaw08.HouseSigns", spec := "houseSigns", unfollowed := true, recurses := true, apart := false }
def HouseSignsSaid : Prop := houseSignsRow.holds Tryz.pinned (OpenSpec.ofChange houseSignsSpec)

/-- ITS FALSE NEIGHBOUR: 'it returns false'. Refute it at one input. -/
def houseSignsWrong : ChangeSpec := { name := "houseSigns", fn := fun _ => fun
  | [d1, d2] => { results := [.lit (.bool false)], args := [d1, d2] }
  | _ => none }
def HouseSignsWrongFalsely : Prop := houseSignsRow.holds Tryz.pinned (OpenSpec.ofChange houseSignsWrong)

/-- 'coupletlaw08.HouseRow': WHATEVER THE INPUT: true; the input reads as it did. -/
def houseRowSpec : ChangeSpec := { name := "houseRow", fn := fun _ => fun
  | [d] => { results := [.lit (.bool true)], args := [d] }
  | _ => none }
def houseRowRow : OpenClaim := { program := "ytafjmogkiohjgaagreat", sum := "134eea4c41c76db7d31eee2652a84d4efabe568a51d9ee31d09968c07997b7b9", func := "couplet/coupletlaw08.HouseRow", spec := "houseRow", unfollowed := true, recurses := true, named := ["math/bits.divideError", "math/bits.overflowError"], apart := false }
def HouseRowSaid : Prop := houseRowRow.holds Tryz.pinned (OpenSpec.ofChange houseRowSpec)

/-- ITS FALSE NEIGHBOUR: 'it returns false'. Refute it at one input. -/
def houseRowWrong : ChangeSpec := { name := "houseRow", fn := fun _ => fun
  | [d] => { results := [.lit (.bool false)], args := [d] }
  | _ => none }
def HouseRowWrongFalsely : Prop := houseRowRow.holds Tryz.pinned (OpenSpec.ofChange houseRowWrong)

/-- 'coupletlaw08.HouseTwice': WHATEVER THE INPUT: true; the input reads as it did. -/
def houseTwiceSpec : ChangeSpec := { name := "houseTwice", fn := fun _ => fun
  | [d1, d2] => { results := [.lit (.bool true)], args := [d1, d2] }
  | _ => none }
def houseTwiceRow : OpenClaim := { program := "ytafjmogkiohjgaagreat", sum := "134eea4c41c76db7d31eee2652a84d4efabe568a51d9ee31d09968c07997b7b9", func := "couplet/coupletlaw08.HouseTwice", spec := "houseTwice", unfollowed := true, recurses := true, named := ["math/bits.divideError", "math/bits.overflowError"], apart := false }
def HouseTwiceSaid : Prop := houseTwiceRow.holds Tryz.pinned (OpenSpec.ofChange houseTwiceSpec)

/-- ITS FALSE NEIGHBOUR: 'it returns false'. Refute it at one input. -/
def houseTwiceWrong : ChangeSpec := { name := "houseTwice", fn := fun _ => fun
  | [d1, d2] => { results := [.lit (.bool false)], args := [d1, d2] }
  | _ => none }
def HouseTwiceWrongFalsely : Prop := houseTwiceRow.holds Tryz.pinned (OpenSpec.ofChange houseTwiceWrong)

/- THE SECOND FORM. 'bulk': how many values and letters a reading holds, each counted each time it is reached (what is shared counts as often as it is met; a slice's spare places count too). A statement '..UptoSaid' is the law's where the arguments, and the package variables that the reading takes, are together of bulk at most 1048576: NARROWER than '..Said'. Prove '..Said' where nothing that the law and all that it calls make is longer than what came in: it says more and counts as full. Else prove '..UptoSaid'. A law counts once. -/
mutual
def uptoBulk {H : Type} : DataW H → Nat
  | .lit (.string bytes) => bytes.length + 1
  | .lit _ => 1
  | .nil => 1
  | .ptr d => uptoBulk d + 1
  | .slice elems spare => uptoBulkAll elems + uptoBulkAll spare + 1
  | .agg parts => uptoBulkAll parts + 1
  | .iface _ d => uptoBulk d + 1
  | .map entries => uptoBulkEntries entries + 1
  | .held _ => 1
def uptoBulkAll {H : Type} : List (DataW H) → Nat
  | [] => 0
  | d :: r => uptoBulk d + uptoBulkAll r
def uptoBulkEntries {H : Type} : List (Lit × DataW H) → Nat
  | [] => 0
  | x :: r => uptoBulkEntry x + uptoBulkEntries r
def uptoBulkEntry {H : Type} : Lit × DataW H → Nat
  | (.string bytes, d) => bytes.length + uptoBulk d + 1
  | (_, d) => uptoBulk d + 1
 end
def uptoSmall : (H : Type) → List (DataW H) → Bool := fun _ ds => decide (uptoBulkAll ds ≤ 1048576)
def OpenSpec.upto (s : _root_.Go.ChangeSpec) : _root_.Go.OpenSpec := { _root_.Go.OpenSpec.ofChange s with cond := some uptoSmall }

/-- 'coupletlaw08.HouseFolds', WHERE WHAT IT READS IS OF BULK AT MOST 1048576: true; the input reads as it did. -/
def houseFoldsUptoRow : OpenClaim := { program := "ytafjmogkiohjgaagreat", sum := "134eea4c41c76db7d31eee2652a84d4efabe568a51d9ee31d09968c07997b7b9", func := "couplet/coupletlaw08.HouseFolds", spec := "houseFolds", unfollowed := true, recurses := true, apart := false, narrowed := true }
def HouseFoldsUptoSaid : Prop := houseFoldsUptoRow.holds Tryz.pinned (OpenSpec.upto houseFoldsSpec)

/-- 'coupletlaw08.HouseSquares', WHERE WHAT IT READS IS OF BULK AT MOST 1048576: true; the input reads as it did. -/
def houseSquaresUptoRow : OpenClaim := { program := "ytafjmogkiohjgaagreat", sum := "134eea4c41c76db7d31eee2652a84d4efabe568a51d9ee31d09968c07997b7b9", func := "couplet/coupletlaw08.HouseSquares", spec := "houseSquares", unfollowed := true, recurses := true, named := ["math/bits.divideError", "math/bits.overflowError"], apart := false, narrowed := true }
def HouseSquaresUptoSaid : Prop := houseSquaresUptoRow.holds Tryz.pinned (OpenSpec.upto houseSquaresSpec)

/-- 'coupletlaw08.HouseSigns', WHERE WHAT IT READS IS OF BULK AT MOST 1048576: true; the input reads as it did. -/
def houseSignsUptoRow : OpenClaim := { program := "ytafjmogkiohjgaagreat", sum := "134eea4c41c76db7d31eee2652a84d4efabe568a51d9ee31d09968c07997b7b9", func := "couplet/coupletlaw08.HouseSigns", spec := "houseSigns", unfollowed := true, recurses := true, apart := false, narrowed := true }
def HouseSignsUptoSaid : Prop := houseSignsUptoRow.holds Tryz.pinned (OpenSpec.upto houseSignsSpec)

/-- 'coupletlaw08.HouseRow', WHERE WHAT IT READS IS OF BULK AT MOST 1048576: true; the input reads as it did. -/
def houseRowUptoRow : OpenClaim := { program := "ytafjmogkiohjgaagreat", sum := "134eea4c41c76db7d31eee2652a84d4efabe568a51d9ee31d09968c07997b7b9", func := "couplet/coupletlaw08.HouseRow", spec := "houseRow", unfollowed := true, recurses := true, named := ["math/bits.divideError", "math/bits.overflowError"], apart := false, narrowed := true }
def HouseRowUptoSaid : Prop := houseRowUptoRow.holds Tryz.pinned (OpenSpec.upto houseRowSpec)

/-- 'coupletlaw08.HouseTwice', WHERE WHAT IT READS IS OF BULK AT MOST 1048576: true; the input reads as it did. -/
def houseTwiceUptoRow : OpenClaim := { program := "ytafjmogkiohjgaagreat", sum := "134eea4c41c76db7d31eee2652a84d4efabe568a51d9ee31d09968c07997b7b9", func := "couplet/coupletlaw08.HouseTwice", spec := "houseTwice", unfollowed := true, recurses := true, named := ["math/bits.divideError", "math/bits.overflowError"], apart := false, narrowed := true }
def HouseTwiceUptoSaid : Prop := houseTwiceUptoRow.holds Tryz.pinned (OpenSpec.upto houseTwiceSpec)

end Rows
end Go.Proofs.YtafjmogkiohjgaaGreat
