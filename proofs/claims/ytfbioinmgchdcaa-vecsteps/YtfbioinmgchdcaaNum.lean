/- An enclosed number as an argument: opened, and shut. -/
import Derived.Test.YtfbioinmgchdcaaEn1
import Derived.ProofKit
import Derived.OpenShut
import Derived.Lib.SmallJoins
namespace Go.Proofs.Ytfbioinmgchdcaa
open Go.ChangeShapes Go.WideShapes Go.ChangeAt Go.RowKit Go.Joins
set_option linter.unusedVariables false

theorem cellsNum : Try.prog.cellsOf 37 = 4 := by kernel_rfl
/-- As the statement's data have it. -/
abbrev numD {H : Type} (a : En) : DataW H := .agg [.lit (.int .i64 a.v), .lit (.int .i64 a.l), .lit (.int .i64 a.h), .lit (.bool a.bad)]
/-- Its numbers are of 64 bits. -/
structure NumW (a : En) : Prop where
  v : (Lit.int .i64 a.v).wf = true
  l : (Lit.int .i64 a.l).wf = true
  h : (Lit.int .i64 a.h).wf = true
set_option maxRecDepth 1000000 in
theorem open_num {H : Type} {enc : TypeId × Value → H} {W : World} {base b0 : Nat} {spare : Nat → Bool} {held : Bool} {v : Value} {d : DataW H} {p : List MemPlace}
    (hv : Value.okWide Try.prog W .any b0 37 v) (h : DataW.Trod enc Try.prog W base spare held 37 v d p) : ∃ a : En, v = enV a ∧ d = numD a ∧ p = [] ∧ NumW a := by
  obtain ⟨c0, c1, c2, c3, y0, y1, y2, y3, m, rfl, rfl, rfl, hy0, hy1, hy2, hy3⟩ := open_agg4 Try.underlying37 (by kernel_rfl) cellsNum hv h
  obtain ⟨x, e0, rfl, wx⟩ := DataW.trod_int Try.underlying3 hy0
  obtain ⟨y, e1, rfl, wy⟩ := DataW.trod_int Try.underlying3 hy1
  obtain ⟨z, e2, rfl, wz⟩ := DataW.trod_int Try.underlying3 hy2
  obtain ⟨b, e3, rfl⟩ := DataW.trod_bool Try.underlying4 hy3
  simp at e0 e1 e2 e3
  subst e0 e1 e2 e3
  exact ⟨⟨x, y, z, b⟩, rfl, rfl, rfl, wx, wy, wz⟩
set_option maxRecDepth 1000000 in
theorem shut_num {H : Type} {enc : TypeId × Value → H} {W : World} {base : Nat} {spare : Nat → Bool} {held : Bool} {a : En} (w : NumW a) : DataW.Trod enc Try.prog W base spare held 37 (enV a) (numD a) [] :=
  shut_agg4 (y0 := (.lit (.int .i64 a.v), [])) (y1 := (.lit (.int .i64 a.l), [])) (y2 := (.lit (.int .i64 a.h), [])) (y3 := (.lit (.bool a.bad), [])) Try.underlying37 (by kernel_rfl) cellsNum
    ⟨1, by simp [DataW.trod, Try.underlying3, w.v]⟩ ⟨1, by simp [DataW.trod, Try.underlying3, w.l]⟩ ⟨1, by simp [DataW.trod, Try.underlying3, w.h]⟩ ⟨1, by simp [DataW.trod, Try.underlying4]⟩
end Go.Proofs.Ytfbioinmgchdcaa
