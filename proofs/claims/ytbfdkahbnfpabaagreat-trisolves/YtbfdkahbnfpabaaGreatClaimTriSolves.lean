/- TriSolves: a lower triangle of whole numbers, with a diagonal without 0, times what is solved, is what was asked, in fractions; enclosed ones enclose it (of 5 by 5 at most, numbers from -100 up to 100; where all fractions may be). Conditions: none (every input). -/
import Derived.Test.YtbfdkahbnfpabaaGreatTrK
import Derived.Test.YtbfdkahbnfpabaaGreatSli
import Derived.ProofKit
import Derived.OpenShut
import Derived.Carry
namespace Go.Proofs.YtbfdkahbnfpabaaGreat
open Go.ChangeShapes Go.WideShapes Go.ChangeAt Go.RowKit
set_option linter.unusedVariables false

theorem own_TriSolves : ownKnob Tryz.prog.godebug = none := by kernel_rfl
theorem laid_TriSolves : laidOutB Tryz.prog = true := by kernel_rfl
set_option maxRecDepth 100000 in
theorem lifted_TriSolves (os : Os) (started : os.Started) (H : Type) (enc : TypeId × Value → H) :
    ReturnsInHanded {} Tryz.checked os 4 .any (Rows.triSolvesSpec.pre6 enc Tryz.prog Tryz.f4 Rows.triSolvesRow.domain false) (Rows.triSolvesSpec.post enc Tryz.prog Tryz.f4 false true false false) := by
  refine returnsInHanded_of_change (C := Tryz.checked) own_TriSolves started (by kernel_rfl) Tryz.func4
    (ChangeSpec.witness6 (enc := enc) (C := Tryz.checked) false ⟨#[], #[.slice none 0 0, .slice none 0 0, .int .i64 0], []⟩ 8 (by kernel_rfl) (by kernel_rfl) (by kernel_rfl) (by kernel_rfl)) ?_
  intro W base args ds gs before hval0 hW hcnd _
  have hval : ∀ (j : Nat) t v, Tryz.f4.params[j]? = some t → args[j]? = some v → Value.okWide Tryz.prog W .any base t v := hval0
  have hW' := hW
  obtain ⟨p, q, hA0, hV, rfl, hfz, hnd⟩ := hW
  have hA : DataW.TrodAll enc Tryz.prog W 0 (fun _ => true) true Tryz.f4.params.toList args.toList ds p := hA0
  rw [Tryz.params4] at hA hval
  obtain ⟨v0, vs0, d0, ds0, p0, q0, hargs, rfl, rfl, h0, r0⟩ := trodAll_cons hA
  obtain ⟨v1, vs1, d1, ds1, p1, q1, rfl, rfl, rfl, h1, r1⟩ := trodAll_cons r0
  obtain ⟨v2, vs2, d2, ds2, p2, q2, rfl, rfl, rfl, h2, r2⟩ := trodAll_cons r1
  obtain ⟨rfl, rfl, rfl⟩ := trodAll_nil r2
  obtain rfl : args = #[v0, v1, v2] := by cases args; simp_all
  obtain ⟨rfl, rfl⟩ := trodVars_none hV
  have hltA := fun x hx => hW'.lt x hx
  obtain ⟨a0, R0, w0⟩ := open_row (hval 0 22 v0 rfl rfl) h0
  obtain ⟨a1, R1, w1⟩ := open_row (hval 1 22 v1 rfl rfl) h1
  obtain ⟨a2, e2, _, _, w2⟩ := open_int Tryz.underlying3 (hval 2 3 v2 rfl rfl) h2
  subst e2
  clear hA0 hval0
  refine (walk_TriSolves v0 a0 v1 a1 a2 W R0 R1).mono fun e W' ⟨he, bel⟩ => ?_
  subst he
  exact ⟨_, rfl, _, _, _, [], _, [], hW', trodAll_mk1 (shut_bool Tryz.underlying4 _), (trodAll_cons_mk (Below.trod laid_TriSolves (by kernel_rfl) (of_decide_eq_true (by kernel_rfl)) h0 bel (fun x hx => by have := hltA x (by simp [hx]); simpa using this)) (trodAll_cons_mk (Below.trod laid_TriSolves (by kernel_rfl) (of_decide_eq_true (by kernel_rfl)) h1 bel (fun x hx => by have := hltA x (by simp [hx]); simpa using this)) (trodAll_cons_mk (Below.trod laid_TriSolves (by kernel_rfl) (of_decide_eq_true (by kernel_rfl)) h2 bel (fun x hx => by have := hltA x (by simp [hx]); simpa using this)) trodAll_mk0))), rfl, Below.frame bel _, fun h => by cases h⟩

theorem proved_TriSolves : Rows.TriSolvesSaid :=
  OpenClaim.holds_of_wide 4 Tryz.f4 rfl rfl rfl rfl rfl rfl rfl ⟨rfl, rfl, rfl, rfl, rfl⟩ rfl rfl rfl rfl rfl (by kernel_rfl) Tryz.func4 (by kernel_rfl)
    (of_decide_eq_true (by kernel_rfl)) (by unfold Func.isWrapper; first | (rw [if_pos (by decide +kernel)]; kernel_rfl) | (rw [if_neg (by decide +kernel)]; exact ⟨rfl, rfl⟩))
    (fun os started H enc _ => lifted_TriSolves os started H enc)
#print axioms proved_TriSolves
end Go.Proofs.YtbfdkahbnfpabaaGreat
