/- Contracts of strconv.Itoa, fx.parts, fx.Text, and of the document's digits and Text (layer 2). -/
import Derived.Test.YtkigikccdoaljaaDoorFx1
import Derived.Test.YtkigikccdoaljaaDoorFxM
import Derived.Test.YtkigikccdoaljaaDoorShelf
import Derived.ScopeJumps
import Derived.WalkMore
namespace Go.Proofs.YtkigikccdoaljaaDoor
open Go.RowKit
set_option linter.unusedSimpArgs false
set_option linter.unusedVariables false

/-- The table of powers of ten, as the library lays it. -/
def PowTab (w : World) : Prop := Lib.TabIs Tryd.prog w "internal/strconv.uint64pow10" .u64 Lib.pow10Tab
theorem PowTab.later {w w' : World} (h : PowTab w) (hb : Bl w w') : PowTab w' := by
  unfold PowTab Lib.TabIs World.var? at h ⊢
  cases hg : Tryd.prog.globalNamed "internal/strconv.uint64pow10" with
  | none => rw [hg] at h; simp at h
  | some g =>
    rw [hg] at h
    have hl : g < w.heap.size := by
      rcases Nat.lt_or_ge g w.heap.size with k | k
      · exact k
      · rw [Option.bind_some, Array.getElem?_eq_none k] at h
        simp at h
    rw [Option.bind_some, Below.block hb g hl]
    exact h
theorem grow_bl (w : World) (k : Nat) (os : Array Obj) : Bl w (Sort.grow (w.drewN k) os) :=
  ⟨rfl, rfl, rfl, by simp [Sort.grow], fun i hi => by simp [Sort.grow, Array.getElem?_append, hi]⟩
theorem itoa_any (n : Int) (hn : I64 n) (w : World) (ht : PowTab w) :
    Calls Tryd.prog 40 #[.int .i64 n] w fun e w' => e = .returned (.string (bs (Lib.itoa n))) ∧ Bl w w' := by
  refine (Tryd.strconv_Itoa n hn.1 hn.2 w ht).mono ?_
  rintro e w' ⟨rfl, k, os, rfl⟩
  exact ⟨rfl, grow_bl _ _ _⟩
theorem itoa_digit (n : Int) (h0 : 0 ≤ n) (h1 : n < 100) (w : World) :
    Calls Tryd.prog 40 #[.int .i64 n] w fun e w' => e = .returned (.string (bs (Lib.decDigits n.toNat))) ∧ w' = w := by
  have := Tryd.strconv_Itoa_small n.toNat (by omega) w
  rw [Int.toNat_of_nonneg h0] at this
  exact this
theorem add_bs (x y : List UInt8) (h : x.length + y.length ≤ 1000) (w : World) : (Op.stringOp .add (bs x) (bs y)).run Tryd.prog w = .ok (.string (bs (x ++ y))) w := by
  rw [run_string_add_sum w _ _ (by rw [bs_size, bs_size]; omega), bs_append]
end Go.Proofs.YtkigikccdoaljaaDoor
