/- Sums, and what stands beside one another, of matrices of whole numbers, as fractions (layer 6's laws). -/
import Derived.Test.YtokbmbgiimbkpaaMaI
import Derived.Test.YtokbmbgiimbkpaaMaX
import Derived.Test.YtokbmbgiimbkpaaMaW
namespace Go.Proofs.Ytokbmbgiimbkpaa
open Go.RowKit
set_option linter.unusedSimpArgs false
set_option linter.unusedVariables false

theorem add6_any {A B : Int} (R C : Nat) (p q : Option Addr) (n cap cap2 : Nat) (a b : Nat → Nat → Int) (w : World) (hx : MxI w R C p n cap a) (hy : MxI w R C q n cap2 b) (ha : Sm2 A R C a) (hb : Sm2 B R C b) (hA : A ≤ 100000000) (hB : B ≤ 100000000) :
    Calls Try.prog 22 #[mV R C p n cap, mV R C q n cap2] w fun e w' => ∃ p' cap', e = .returned (.tuple #[mV R C p' n cap', .bool true]) ∧ MxI w' R C p' n cap' (fun i k => a i k + b i k) ∧ Bl w w' := by
  refine (mAdd_any R C p q n cap cap2 _ _ w hx hy).mono ?_
  rintro e w' ⟨p', cap', rfl, h, hb'⟩
  refine ⟨p', cap', rfl, h.congr (fun i k hi hk => ?_), hb'⟩
  have h1 := ha i k hi hk
  have h2 := hb i k hi hk
  exact add_it ⟨by omega, by omega⟩ ⟨by omega, by omega⟩ ⟨by omega, by omega⟩
theorem sub6_any {A B : Int} (R C : Nat) (p q : Option Addr) (n cap cap2 : Nat) (a b : Nat → Nat → Int) (w : World) (hx : MxI w R C p n cap a) (hy : MxI w R C q n cap2 b) (ha : Sm2 A R C a) (hb : Sm2 B R C b) (hA : A ≤ 100000000) (hB : B ≤ 100000000) :
    Calls Try.prog 23 #[mV R C p n cap, mV R C q n cap2] w fun e w' => ∃ p' cap', e = .returned (.tuple #[mV R C p' n cap', .bool true]) ∧ MxI w' R C p' n cap' (fun i k => a i k - b i k) ∧ Bl w w' := by
  refine (mSub_any R C p q n cap cap2 _ _ w hx hy).mono ?_
  rintro e w' ⟨p', cap', rfl, h, hb'⟩
  refine ⟨p', cap', rfl, h.congr (fun i k hi hk => ?_), hb'⟩
  have h1 := ha i k hi hk
  have h2 := hb i k hi hk
  exact sub_it ⟨by omega, by omega⟩ ⟨by omega, by omega⟩ ⟨by omega, by omega⟩
theorem beside6_any (R C D : Nat) (p : Option Addr) (n cap : Nat) (a : Nat → Nat → Int) (q : Option Addr) (n2 cap2 : Nat) (b : Nat → Nat → Int) (E N : Nat) (w : World) (hx : MxI w R C p n cap a) (hy : MxI w R D q n2 cap2 b) (hE : E = C + D) (hE16 : E ≤ 16) (hN : N = R * E) :
    Calls Try.prog 24 #[mV R C p n cap, mV R D q n2 cap2] w fun e w' => ∃ p' cap', e = .returned (.tuple #[mV R E p' N cap', .bool true]) ∧ MxI w' R E p' N cap' (besideM C a b) ∧ Bl w w' := by
  refine (mBesideF R C D p n cap _ q n2 cap2 _ E N w hx hy hE hE16 hN).mono ?_
  rintro e w' ⟨p', cap', rfl, h, hb'⟩
  refine ⟨p', cap', rfl, h.congr (fun i k hi hk => ?_), hb'⟩
  unfold besideM
  split <;> rfl
/-- A product with a sum is the sum of both products. -/
theorem mulI_add (M : Nat) (a b c : Nat → Nat → Int) (i k : Nat) : mulI M a (fun i k => b i k + c i k) i k = mulI M a b i k + mulI M a c i k := by
  induction M with
  | zero => simp [mulI_zero]
  | succ M ih => rw [mulI_succ, mulI_succ, mulI_succ, ih, Int.mul_add]; omega
/-- A product with two beside one another is both products beside one another. -/
theorem mulI_beside (M D : Nat) (a b c : Nat → Nat → Int) (i k : Nat) : mulI M a (besideM D b c) i k = besideM D (mulI M a b) (mulI M a c) i k := by
  unfold besideM
  by_cases h : k < D
  · rw [if_pos h]
    induction M with
    | zero => rfl
    | succ M ih => rw [mulI_succ, mulI_succ, ih, if_pos h]
  · rw [if_neg h]
    induction M with
    | zero => rfl
    | succ M ih => rw [mulI_succ, mulI_succ, ih, if_neg h]
theorem sm2_add {A B : Int} {R C : Nat} {a b : Nat → Nat → Int} (ha : Sm2 A R C a) (hb : Sm2 B R C b) : Sm2 (A + B) R C (fun i k => a i k + b i k) := fun i k hi hk => by
  have h1 := ha i k hi hk
  have h2 := hb i k hi hk
  show -(A + B) ≤ a i k + b i k ∧ a i k + b i k ≤ A + B
  exact ⟨by omega, by omega⟩
theorem sm2_beside {A : Int} {R C D : Nat} {a b : Nat → Nat → Int} (ha : Sm2 A R C a) (hb : Sm2 A R D b) : Sm2 A R (C + D) (besideM C a b) := fun i k hi hk => by
  unfold besideM
  by_cases h : k < C
  · rw [if_pos h]; exact ha i k hi h
  · rw [if_neg h]; exact hb i _ hi (by omega)
theorem sm2_mul {A B : Int} {R M D : Nat} {a b : Nat → Nat → Int} (hA : 0 ≤ A) (hB : 0 ≤ B) (ha : Sm2 A R M a) (hb : Sm2 B M D b) : Sm2 (A * B * M) R D (mulI M a b) := fun i k hi hk => mulI_bound hA hB ha hb hi hk M (Nat.le_refl _)
theorem sm2_le {A B : Int} {R C : Nat} {a : Nat → Nat → Int} (ha : Sm2 A R C a) (h : A ≤ B) : Sm2 B R C a := fun i k hi hk => by
  have h1 := ha i k hi hk
  exact ⟨by omega, by omega⟩
/-- Alike, of two matrices of the same whole numbers. -/
theorem alike6_any (R C : Nat) (p q : Option Addr) (n cap cap2 : Nat) (a b : Nat → Nat → Int) (w : World) (hx : MxI w R C p n cap a) (hy : MxI w R C q n cap2 b) (e : ∀ i k, i < R → k < C → a i k = b i k) :
    Calls Try.prog 30 #[mV R C p n cap, mV R C q n cap2] w fun e w' => e = .returned (.bool true) ∧ Bl w w' := by
  have hy' := hy.congr (g := fun i k => itF (a i k)) (fun i k hi hk => by rw [e i k hi hk])
  exact alike_any R C p q n cap cap2 _ w hx.2.2 hy'.2.2 (by rw [mk_len, hx.2.1]) (by rw [hx.2.1]; have := hx.1.lt; omega)
end Go.Proofs.Ytokbmbgiimbkpaa
