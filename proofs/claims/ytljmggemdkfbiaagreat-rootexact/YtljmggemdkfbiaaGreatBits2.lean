/- The contracts of the document's Add, Sub. -/
import Derived.Test.YtljmggemdkfbiaaGreatBits
namespace Go.Proofs.YtljmggemdkfbiaaGreat
open Go.RowKit
set_option linter.unusedSimpArgs false
set_option linter.unusedVariables false

theorem add_step (xs az bz : List Int) (c : Int) (k : Nat) (hk : k < 130) (hl : xs.length = k) (la : az.length = 130) (lb : bz.length = 130)
    (h : bval xs + 2 ^ k * c = bval (az.take k) + bval (bz.take k)) :
    bval (xs ++ [(az.getD k 0 + bz.getD k 0 + c) % 2]) + 2 ^ (k + 1) * ((az.getD k 0 + bz.getD k 0 + c) / 2) = bval (az.take (k + 1)) + bval (bz.take (k + 1)) := by
  rw [bval_snoc, hl, Int.pow_succ, bval_take_succ az k (by omega), bval_take_succ bz k (by omega), Int.add_assoc, Int.mul_assoc, ← Int.mul_add]
  generalize az.getD k 0 = x
  generalize bz.getD k 0 = y
  rw [show (x + y + c) % 2 + 2 * ((x + y + c) / 2) = x + y + c by omega, Int.mul_add, Int.mul_add]
  omega

theorem sub_step (xs az bz : List Int) (c : Int) (k : Nat) (hk : k < 130) (hl : xs.length = k) (la : az.length = 130) (lb : bz.length = 130)
    (h : bval xs - 2 ^ k * c = bval (az.take k) - bval (bz.take k)) :
    bval (xs ++ [(az.getD k 0 - bz.getD k 0 - c + 2) % 2]) - 2 ^ (k + 1) * (1 - (az.getD k 0 - bz.getD k 0 - c + 2) / 2) = bval (az.take (k + 1)) - bval (bz.take (k + 1)) := by
  rw [bval_snoc, hl, Int.pow_succ, bval_take_succ az k (by omega), bval_take_succ bz k (by omega), Int.mul_assoc]
  generalize az.getD k 0 = x
  generalize bz.getD k 0 = y
  have e : (2 : Int) ^ k * ((x - y - c + 2) % 2) = 2 ^ k * (x - y - c) + 2 ^ k * (2 * (1 - (x - y - c + 2) / 2)) := by
    rw [← Int.mul_add]; congr 1; omega
  rw [e, Int.mul_sub, Int.mul_sub]
  omega

end Go.Proofs.YtljmggemdkfbiaaGreat
