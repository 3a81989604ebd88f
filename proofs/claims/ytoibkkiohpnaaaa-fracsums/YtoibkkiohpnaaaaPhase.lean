/- A stretch of a region that draws its order, by what holds between its operations, whatever their order. -/
import Derived.Test.YtoibkkiohpnaaaaMid
import Derived.Deep.RegionHeld3
namespace Go.Proofs.Ytoibkkiohpnaaaa
open Go.RowKit
set_option linter.unusedSimpArgs false
set_option linter.unusedVariables false

/-- k operations are to come in this stretch: I holds between them. -/
theorem wpAnyH_phase {P : Program} {md : Region.Mode} {ops : Array Oper} {Q : Exit → Act → World → Prop} {S : World → Prop} {fuel : Nat} (I : Nat → Array Bool → Act → World → Prop)
    (fin : ∀ l a w, I 0 l a w → wpAnyH P md ops Q S fuel l a w)
    (live : ∀ k l a w, I (k + 1) l a w → Region.ready md ops l = [] → False)
    (step : ∀ k l a w i, I (k + 1) l a w → l.getD i true = false → (∀ e, (∃ o, ops[i]? = some o ∧ e ∈ o.after) → Region.binds md e = true → l.getD e.on false = true) → wpOp P ops Q i (fun a' w' => S w' ∧ I k (l.setIfInBounds i true) a' w') a w) :
    ∀ (k : Nat) (l : Array Bool) (a : Act) (w : World), I k l a w → wpAnyH P md ops Q S (fuel + k) l a w
  | 0, l, a, w, h => fin l a w h
  | k + 1, l, a, w, h => ⟨fun h0 => (live k l a w h h0).elim, fun i hi => by
      obtain ⟨h1, o, ho, hall⟩ := mem_ready.1 hi
      refine wpOp_mono (fun a' w' h' => ⟨h'.1, wpAnyH_phase I fin live step k _ a' w' h'.2⟩) (step k l a w i h h1 (fun e ⟨o', ho', he⟩ hb => ?_))
      rw [ho] at ho'
      cases ho'
      exact hall e he hb⟩
/-- One more to come. -/
def cnt (b : Bool) : Nat := if b then 0 else 1
end Go.Proofs.Ytoibkkiohpnaaaa
