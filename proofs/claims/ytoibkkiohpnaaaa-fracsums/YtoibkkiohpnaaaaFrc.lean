/- A fraction as an argument: opened, and shut. -/
import Derived.Test.YtoibkkiohpnaaaaFr1
import Derived.ProofKit
import Derived.OpenShut
import Derived.Lib.SmallJoins
namespace Go.Proofs.Ytoibkkiohpnaaaa
open Go.ChangeShapes Go.WideShapes Go.ChangeAt Go.RowKit Go.Joins
set_option linter.unusedVariables false

theorem cellsFrc : Try.prog.cellsOf 23 = 3 := by kernel_rfl
/-- As the statement's data have it. -/
abbrev frcD {H : Type} (a : Fr) : DataW H := .agg [.lit (.int .i64 a.n), .lit (.int .i64 a.d), .lit (.bool a.bad)]
/-- Its numbers are of 64 bits. -/
structure FrcW (a : Fr) : Prop where
  n : (Lit.int .i64 a.n).wf = true
  d : (Lit.int .i64 a.d).wf = true
theorem open_frc {H : Type} {enc : TypeId × Value → H} {W : World} {base b0 : Nat} {spare : Nat → Bool} {held : Bool} {v : Value} {d : DataW H} {p : List MemPlace}
    (hv : Value.okWide Try.prog W .any b0 23 v) (h : DataW.Trod enc Try.prog W base spare held 23 v d p) : ∃ a : Fr, v = frV a ∧ d = frcD a ∧ p = [] ∧ FrcW a := by
  obtain ⟨c0, c1, c2, y0, y1, y2, m, rfl, rfl, rfl, hy0, hy1, hy2⟩ := open_agg3 Try.underlying23 (by kernel_rfl) cellsFrc hv h
  obtain ⟨x, e0, rfl, wx⟩ := DataW.trod_int Try.underlying3 hy0
  obtain ⟨y, e1, rfl, wy⟩ := DataW.trod_int Try.underlying3 hy1
  obtain ⟨b, e2, rfl⟩ := DataW.trod_bool Try.underlying4 hy2
  simp at e0 e1 e2
  subst e0 e1 e2
  exact ⟨⟨x, y, b⟩, rfl, rfl, rfl, wx, wy⟩
theorem shut_frc {H : Type} {enc : TypeId × Value → H} {W : World} {base : Nat} {spare : Nat → Bool} {held : Bool} {a : Fr} (w : FrcW a) : DataW.Trod enc Try.prog W base spare held 23 (frV a) (frcD a) [] :=
  shut_agg3 (y0 := (.lit (.int .i64 a.n), [])) (y1 := (.lit (.int .i64 a.d), [])) (y2 := (.lit (.bool a.bad), [])) Try.underlying23 (by kernel_rfl) cellsFrc
    ⟨1, by simp [DataW.trod, Try.underlying3, w.n]⟩ ⟨1, by simp [DataW.trod, Try.underlying3, w.d]⟩ ⟨1, by simp [DataW.trod, Try.underlying4]⟩
end Go.Proofs.Ytoibkkiohpnaaaa
