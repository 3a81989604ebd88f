/- Joseph's update in fractions against the words of the standard form; numbers that are told are fine, or Bad. Mathematics alone. -/
import Derived.Test.YtljmggemdkfbiaaGreatJoQ
import Derived.Test.YtljmggemdkfbiaaGreatMaI
namespace Go.Proofs.YtljmggemdkfbiaaGreat
open Go.RowKit
set_option linter.unusedSimpArgs false
set_option linter.unusedVariables false

theorem ofQ_bad9 (q : Rat) : fineR (ofQ q) = !(ofQ q).bad := by
  cases h : okR q
  · rw [ofQ_no h]; rfl
  · rw [ofQ_fine, h, ofQ_ok h]; rfl
theorem add_bad9 (a b : Fr) : fineR (addR a b) = !(addR a b).bad := by
  unfold addR
  split
  · exact ofQ_bad9 _
  · rfl
theorem sub_bad9 (a b : Fr) : fineR (subR a b) = !(subR a b).bad := by
  unfold subR
  split
  · exact ofQ_bad9 _
  · rfl
theorem one9 (i j : Nat) : toQ (wholeF (unitI i j)) = if i = j then 1 else 0 := by
  unfold unitI
  by_cases e : i = j
  · rw [if_pos e, if_pos e, whole_it ⟨by decide, by decide⟩]
    exact toQ_whole 1
  · rw [if_neg e, if_neg e, whole_it ⟨by decide, by decide⟩]
    exact toQ_whole 0
/-- X as the standard form has it. -/
theorem std_x {X u e a : Fr} (h1 : (addR X (divR (mulR u e) a)).bad = false) (h2 : (addR X (mulR (divR u a) e)).bad = false) : addR X (divR (mulR u e) a) = addR X (mulR (divR u a) e) := by
  have f1 : fineR (addR X (divR (mulR u e) a)) = true := by rw [add_bad9, h1]; rfl
  have f2 : fineR (addR X (mulR (divR u a) e)) = true := by rw [add_bad9, h2]; rfl
  obtain ⟨_, g1, e1⟩ := add_q f1
  obtain ⟨_, g2, e2⟩ := add_q f2
  obtain ⟨k1, _, ne, e3⟩ := div_q g1
  obtain ⟨_, _, e4⟩ := mul_q k1
  obtain ⟨k2, _, e5⟩ := mul_q g2
  obtain ⟨_, _, _, e6⟩ := div_q k2
  refine fr_eq f1 f2 ?_
  rw [e1, e2, e3, e4, e5, e6]
  grind
/-- P as the standard form has it. -/
theorem std_p {n : Nat} {p : Nat → Nat → Fr} {h : Nat → Fr} {r : Fr} {i k : Nat} (hi : i < n) (hk : k < n) (hp : ∀ a b, a < n → b < n → toQ (p a b) = toQ (p b a))
    (h1 : (subR (p i k) (divR (mulR (appJ kdF n p h i) (appJ kdF n p h k)) (spreadJ kdF n p h r))).bad = false) (h2 : (upPJ kdF (fun i j => wholeF (unitI i j)) n p h r i k).bad = false) :
    subR (p i k) (divR (mulR (appJ kdF n p h i) (appJ kdF n p h k)) (spreadJ kdF n p h r)) = upPJ kdF (fun i j => wholeF (unitI i j)) n p h r i k := by
  have f1 : fineR (subR (p i k) (divR (mulR (appJ kdF n p h i) (appJ kdF n p h k)) (spreadJ kdF n p h r))) = true := by rw [sub_bad9, h1]; rfl
  have f2 : fineR (upPJ kdF (fun i j => wholeF (unitI i j)) n p h r i k) = true := by
    have e : fineR (upPJ kdF (fun i j => wholeF (unitI i j)) n p h r i k) = !(upPJ kdF (fun i j => wholeF (unitI i j)) n p h r i k).bad := add_bad9 _ _
    rw [e, h2]
    rfl
  have U := up_q hi hk (one9) hp f2
  obtain ⟨_, g1, e1⟩ := sub_q f1
  obtain ⟨k1, _, _, e2⟩ := div_q g1
  obtain ⟨_, _, e3⟩ := mul_q k1
  exact fr_eq f1 f2 (by rw [e1, e2, e3, U.ez])
/-- Two updates, whichever comes first. -/
theorem two9 {n : Nat} {p : Nat → Nat → Fr} {g h : Nat → Fr} {r : Fr} {i k : Nat} (hi : i < n) (hk : k < n) (hp : ∀ a b, a < n → b < n → toQ (p a b) = toQ (p b a))
    (h1 : (upPJ kdF (fun i j => wholeF (unitI i j)) n (upPJ kdF (fun i j => wholeF (unitI i j)) n p g r) h r i k).bad = false) (h2 : (upPJ kdF (fun i j => wholeF (unitI i j)) n (upPJ kdF (fun i j => wholeF (unitI i j)) n p h r) g r i k).bad = false) :
    upPJ kdF (fun i j => wholeF (unitI i j)) n (upPJ kdF (fun i j => wholeF (unitI i j)) n p g r) h r i k = upPJ kdF (fun i j => wholeF (unitI i j)) n (upPJ kdF (fun i j => wholeF (unitI i j)) n p h r) g r i k := by
  have F : ∀ (q : Nat → Nat → Fr) (y : Nat → Fr), fineR (upPJ kdF (fun i j => wholeF (unitI i j)) n q y r i k) = !(upPJ kdF (fun i j => wholeF (unitI i j)) n q y r i k).bad := fun q y => add_bad9 _ _
  exact two_q hi hk one9 hp (by rw [F, h1]; rfl) (by rw [F, h2]; rfl)
theorem sq_sym9 {n : Nat} (g : Nat → Nat → Fr) (a b : Nat) : squareJ kdF n g a b = squareJ kdF n g b a := by
  unfold squareJ mirM
  rw [Nat.max_comm, Nat.min_comm]
end Go.Proofs.YtljmggemdkfbiaaGreat
