/- The document's Do at each number of what is done (layer 3). -/
import Derived.Test.YtfbioinmgchdcaaEnQ
namespace Go.Proofs.Ytfbioinmgchdcaa
open Go.RowKit
set_option linter.unusedSimpArgs false
set_option linter.unusedVariables false

/-- What is done, by its number. -/
def opE (k : Int) (a b : En) : En :=
  if k = 0 then addE a b else if k = 1 then subE a b else if k = 2 then mulE a b else if k = 3 then divE a b else rootE a
theorem do0 (a b : En) (w : World) : Calls Try.prog 22 #[.int .i64 0, enV a, enV b] w fun e w' => e = .returned (enV (addE a b)) ∧ Bl w w' :=
  do_any 0 nA bA a b w bdA fun x y m w' _ => one0_any x y m w'
theorem do1 (a b : En) (w : World) : Calls Try.prog 22 #[.int .i64 1, enV a, enV b] w fun e w' => e = .returned (enV (subE a b)) ∧ Bl w w' :=
  do_any 1 nS bS a b w bdS fun x y m w' _ => one1_any x y m w'
theorem do2 (a b : En) (w : World) : Calls Try.prog 22 #[.int .i64 2, enV a, enV b] w fun e w' => e = .returned (enV (mulE a b)) ∧ Bl w w' :=
  do_any 2 fmN fmB a b w bdM fun x y m w' _ => one2_any x y m w'
theorem do3_is (a b : En) : doE 3 fdN fdB a b = divE a b := by
  unfold doE divE
  rw [show ((3 : Int) == 3 && zeroB b) = zeroB b by simp]
  rfl
theorem do3 (a b : En) (w : World) : Calls Try.prog 22 #[.int .i64 3, enV a, enV b] w fun e w' => e = .returned (enV (divE a b)) ∧ Bl w w' := by
  rw [← do3_is a b]
  exact do_any 3 fdN fdB a b w bdD fun x y m w' _ => one3_any x y m w'
theorem do4 (a : En) (w : World) : Calls Try.prog 22 #[.int .i64 4, enV a, enV a] w fun e w' => e = .returned (enV (rootE a)) ∧ Bl w w' :=
  do_any 4 nQ bQ a a w bdQ fun x y m w' hm => one4_any x y m hm w'
end Go.Proofs.Ytfbioinmgchdcaa
