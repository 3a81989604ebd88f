/- Contracts of wide.times, product, order, outward, rounded. -/
import Derived.Test.YtokbmbgiimbkpaaLeaf
import Derived.Deep.RegionHeld3
import Derived.Deep.RegionWith
import Derived.BigQuiet
namespace Go.Proofs.Ytokbmbgiimbkpaa
open Go.RowKit
set_option linter.unusedSimpArgs false
set_option linter.unusedVariables false

/-- Of what was there nothing has turned. -/
def Bl (w w' : World) : Prop := Below w.heap.size w w'
theorem Bl.refl (w : World) : Bl w w := Below.refl _ _
theorem Bl.trans {a b c : World} (h : Bl a b) (k : Bl b c) : Bl a c := Below.trans h (Below.mono k h.size)
theorem Bl.alloc {a b : World} (h : Bl a b) (o : Obj) : Bl a (b.alloc o) := Below.alloc h h.size o
theorem Bl.drew {a b : World} (h : Bl a b) : Bl a b.drew := Below.drew h

theorem Bl.set {a b : World} (h : Bl a b) {p : Addr} (hp : a.heap.size ≤ p.block) (v : Value) : Bl a (b.setCell p v) := Below.setCell h hp v
theorem bl_cell {W w1 : World} (hb : Bl W w1) : ∀ b o, b < W.heap.size → w1.cell? ⟨b, o, none⟩ = W.cell? ⟨b, o, none⟩ := fun b o h => Below.cell hb (p := ⟨b, o, none⟩) h
theorem bl_froz {W w1 : World} (hb : Bl W w1) : ∀ b o, b < W.heap.size → w1.frozen? ⟨b, o, none⟩ = W.frozen? ⟨b, o, none⟩ := fun b o h => Below.frozen hb (p := ⟨b, o, none⟩) h

/-- The two words of a number. -/
abbrev wd (n : Int) : Value := .agg #[.int .u64 (n / 18446744073709551616), .int .u64 (n % 18446744073709551616)]

theorem times_ex (x y : Int) (hx : U64 x) (hy : U64 y) (w : World) :
    Calls Try.prog 94 #[.int .u64 x, .int .u64 y] w fun e w' => e = .returned (wd (x * y)) ∧ ∃ o, w.alloc o = w' := by
  go_enter Try.func94, Try.ntmps94
  go_wp2_with (go_at_call 77; refine (mul64_any x y hx hy _).mono ?_; rintro e w' ⟨rfl, rfl⟩)
  simp [bodyPost, results, Try.results94, go_sem]
theorem times_any (x y : Int) (hx : U64 x) (hy : U64 y) (w : World) :
    Calls Try.prog 94 #[.int .u64 x, .int .u64 y] w fun e w' => e = .returned (wd (x * y)) ∧ Bl w w' := by
  refine (times_ex x y hx hy w).mono ?_
  rintro e w' ⟨rfl, o, rfl⟩
  exact ⟨rfl, (Bl.refl _).alloc _⟩

theorem szI_nn (n : Int) : 0 ≤ szI n := by unfold szI; split <;> omega
theorem szI_u64 (n : Int) (h : I64 n) : U64 (szI n) := by obtain ⟨a, b⟩ := h; unfold szI U64; split <;> omega

theorem product_any (a b : Int) (ha : I64 a) (hb : I64 b) (w : World) :
    Calls Try.prog 89 #[.int .i64 a, .int .i64 b] w fun e w' => e = .returned (wd (szI a * szI b)) ∧ Bl w w' := by
  go_enter Try.func89, Try.ntmps89
  go_wp2_with fail
  refine (size_any a ha _).mono ?_
  rintro e w' ⟨rfl, hw⟩
  subst hw
  go_wp2_with fail
  refine (size_any b hb _).mono ?_
  rintro e w' ⟨rfl, hw⟩
  subst hw
  go_wp2_with fail
  refine (times_any _ _ (szI_u64 a ha) (szI_u64 b hb) _).mono ?_
  rintro e w' ⟨rfl, hw⟩
  have c0 : w'.cell? ⟨w.heap.size, 0, none⟩ = some (.int .u64 0) := by rw [bl_cell hw _ _ (by simp)]; simp [go_sem]
  have c1 : w'.cell? ⟨w.heap.size, 1, none⟩ = some (.int .u64 0) := by rw [bl_cell hw _ _ (by simp)]; simp [go_sem]
  have f0 : w'.frozen? ⟨w.heap.size, 0, none⟩ = false := by rw [bl_froz hw _ _ (by simp)]; simp [go_sem]
  have f1 : w'.frozen? ⟨w.heap.size, 1, none⟩ = false := by rw [bl_froz hw _ _ (by simp)]; simp [go_sem]
  go_wp2
  simp [bodyPost, results, Try.results89, go_sem, c0, c1]
  exact Bl.set (Bl.set (((Bl.refl _).alloc _).trans hw) (Nat.le_refl _) _) (Nat.le_refl _) _

/-- The first one that is not 0. -/
def orI (p q : Int) : Int := if p = 0 then q else p
end Go.Proofs.Ytokbmbgiimbkpaa
