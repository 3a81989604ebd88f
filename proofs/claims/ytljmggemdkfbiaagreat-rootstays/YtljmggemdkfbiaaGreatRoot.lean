/- The contract of wide.Root. -/
import Derived.Test.YtljmggemdkfbiaaGreatFloor
namespace Go.Proofs.YtljmggemdkfbiaaGreat
open Go.RowKit
set_option linter.unusedSimpArgs false
set_option linter.unusedVariables false

/-- The root, cut off. -/
def isq : Nat → Nat
  | 0 => 0
  | n + 1 => if (isq n + 1) * (isq n + 1) ≤ n + 1 then isq n + 1 else isq n
theorem isq_spec : ∀ n : Nat, isq n * isq n ≤ n ∧ n < (isq n + 1) * (isq n + 1)
  | 0 => by simp [isq]
  | n + 1 => by
    obtain ⟨h1, h2⟩ := isq_spec n
    unfold isq
    generalize isq n = r at *
    split
    · rename_i h
      refine ⟨h, ?_⟩
      have : (r + 1 + 1) * (r + 1 + 1) = (r + 1) * (r + 1) + 2 * (r + 1) + 1 := by
        rw [Nat.mul_add, Nat.add_mul]; omega
      omega
    · omega
def rtF (p : Int) : Int := isq p.toNat
theorem rtF_spec (p : Int) (h : 0 ≤ p) : 0 ≤ rtF p ∧ rtF p * rtF p ≤ p ∧ p < (rtF p + 1) * (rtF p + 1) := by
  obtain ⟨h1, h2⟩ := isq_spec p.toNat
  unfold rtF
  generalize isq p.toNat = r at *
  have a1 : ((r * r : Nat) : Int) ≤ (p.toNat : Int) := by exact_mod_cast h1
  have a2 : (p.toNat : Int) < (((r + 1) * (r + 1) : Nat) : Int) := by exact_mod_cast h2
  push_cast at a1 a2
  omega
theorem root_one (p r : Int) (h : 0 ≤ r) (h1 : r * r ≤ p) (h2 : p < (r + 1) * (r + 1)) : r = rtF p := by
  have hp : 0 ≤ p := by have := Int.mul_nonneg h h; omega
  obtain ⟨k0, k1, k2⟩ := rtF_spec p hp
  generalize rtF p = q at *
  rcases (by omega : r < q ∨ r = q ∨ q < r) with h' | h' | h'
  · have := Int.mul_le_mul (show r + 1 ≤ q by omega) (show r + 1 ≤ q by omega) (by omega) (by omega)
    omega
  · exact h'
  · have := Int.mul_le_mul (show q + 1 ≤ r by omega) (show q + 1 ≤ r by omega) (by omega) (by omega)
    omega
theorem rtF_le (p b : Int) (h0 : 0 ≤ p) (hb : 0 ≤ b) (h : p ≤ b * b) : rtF p ≤ b := by
  obtain ⟨k0, k1, k2⟩ := rtF_spec p h0
  generalize rtF p = q at *
  rcases Int.lt_or_le b q with h' | h'
  · have := Int.mul_le_mul (show b + 1 ≤ q by omega) (show b + 1 ≤ q by omega) (by omega) (by omega)
    rw [Int.add_mul, Int.mul_add] at this
    omega
  · exact h'

def rtG (a b mode : Int) : Bool := rightB a && rightB b && !decide (a * b < 0) && modeB mode
def rtC (a b mode : Int) : Int :=
  upI (rtF (szI a * szI b)) (outB (rtF (szI a * szI b)) (szI a * szI b - rtF (szI a * szI b) * rtF (szI a * szI b)) (2 * rtF (szI a * szI b) + 1) false mode)
/-- P1.2: Root. -/
def rtN (a b mode : Int) : Int := if rtG a b mode then rdN (rtC a b mode) false else 0
def rtB (a b mode : Int) : Bool := rtG a b mode && rdB (rtC a b mode)

theorem index_low (x y : Value) (w : World) : (Instr.index 175 (.agg #[x, y]) (.int .i64 1)).run Tryz.prog w = .ok y w := by kernel_rfl

set_option maxHeartbeats 1000000 in
theorem root_good (a b mode : Int) (ha : rightB a = true) (hb : rightB b = true) (hs : decide (a * b < 0) = false) (hm : modeB mode = true) (w : World) :
    Calls Tryz.prog 220 #[.int .i64 a, .int .i64 b, .int .i64 mode] w fun e w' =>
      e = .returned (.tuple #[.int .i64 (rdN (rtC a b mode) false), .bool (rdB (rtC a b mode))]) ∧ Bl w w' := by
  have e1 : wrap64 (cmpI a 0 * cmpI b 0) = cmpI (a * b) 0 := by rw [sgn_mul]; exact wrap64_unit (cmpI_bd _ _)
  have e3 : decide (cmpI (a * b) 0 < 0) = false := by
    rw [← hs]
    rcases cmpI_three (a * b) 0 with ⟨h, e⟩ | ⟨h, e⟩ | ⟨h, e⟩ <;> rw [e] <;> simp <;> omega
  clear hs
  have hp := mul_hi (szI_right ha) (szI_right hb)
  have ia := right_i64 ha
  have ib := right_i64 hb
  unfold rtC
  have P := product_any a b ia ib
  generalize szI a * szI b = p at *
  have F := floorRoot_any p
  have hr := rtF_spec p hp.1
  have hu := root_one p
  have hle := rtF_le p 4611686018427387903 hp.1 (by omega) (by omega)
  generalize rtF p = r at *
  obtain ⟨r0, r1, r2⟩ := hr
  have hrr := mul_hi (x := r) (y := r) (by omega) (by omega)
  rw [Int.add_mul, Int.mul_add] at r2
  have ew : IntKind.u64.wrap (p % 18446744073709551616 - r * r % 18446744073709551616) = p - r * r := by
    rw [IntKind.wrap_u64]; omega
  have hru : U64 r := by unfold U64; omega
  have T := times_ex r r hru hru
  have R := rounded_any r (p - r * r) (2 * r + 1) mode false (by omega) (by omega) r0 hm
  unfold wd at P F T
  have HP : Hid _ := P
  have HF : Hid _ := F
  have HU : Hid _ := hu
  have HT : Hid _ := T
  have HR : Hid _ := R
  clear P F hu T R
  go_enter Tryz.func220, Tryz.ntmps220
  go_wp2_with (first
    | (go_at_call 145; refine (right_any _ _).mono ?_; rintro e w' ⟨rfl, rfl⟩)
    | (go_at_call 149; refine (sign_any _ _).mono ?_; rintro e w' ⟨rfl, rfl⟩)
    | (go_at_call 146; refine (isMode_any _ _).mono ?_; rintro e w' ⟨rfl, rfl⟩))
  refine (HP.out _).mono ?_
  rintro e w1 ⟨rfl, h1⟩
  go_wp2_with fail
  refine (HF.out _ hp.1 hp.2).mono ?_
  rintro e w2 ⟨⟨r', rfl, k0, k1, k2⟩, h2⟩
  obtain rfl := HU.out r' k0 k1 k2
  have g1 := bl_cell h2 w1.heap.size 1 (by simp)
  simp [go_sem] at g1
  have hsz : w1.heap.size < w2.heap.size := Nat.lt_of_lt_of_le (by simp) h2.size
  have keep : ∀ W, Bl w2 W → W.cell? ⟨w1.heap.size, 1, none⟩ = some (.int .u64 (p % 18446744073709551616)) :=
    fun W h => (bl_cell h _ _ hsz).trans g1
  have KP : Hid _ := keep
  clear keep k0 k1 k2
  have ix := index_low
  go_wp2_with fail
  go_region_held3 (fun w' => w'.cell? ⟨w1.heap.size, 1, none⟩ = some (.int .u64 (p % 18446744073709551616))) (exact KP.out _ (by repeat (first | exact Bl.refl _ | apply Bl.drew | apply Bl.alloc)))
    (first
      | (go_at_call 159; refine (HT.out _).mono ?_; rintro e w' ⟨rfl, o, rfl⟩))
  go_wp2_with fail
  refine (HR.out _).mono ?_
  rintro e w4 ⟨rfl, rfl⟩
  go_wp2
  go_ret2
  exact ⟨rfl, ((h1.alloc _).trans h2).trans (by repeat (first | exact Bl.refl _ | apply Bl.drew | apply Bl.alloc))⟩

theorem root_any (a b mode : Int) (w : World) :
    Calls Tryz.prog 220 #[.int .i64 a, .int .i64 b, .int .i64 mode] w fun e w' =>
      e = .returned (.tuple #[.int .i64 (rtN a b mode), .bool (rtB a b mode)]) ∧ Bl w w' := by
  unfold rtN rtB rtG
  cases ha : rightB a
  · go_enter Tryz.func220, Tryz.ntmps220
    go_wp2_with (first
      | (go_at_call 145; refine (right_any _ _).mono ?_; rintro e w' ⟨rfl, rfl⟩)
      | (go_at_call 149; refine (sign_any _ _).mono ?_; rintro e w' ⟨rfl, rfl⟩)
      | (go_at_call 146; refine (isMode_any _ _).mono ?_; rintro e w' ⟨rfl, rfl⟩))
    go_ret2
    exact ⟨rfl, Bl.refl _⟩
  cases hb : rightB b
  · go_enter Tryz.func220, Tryz.ntmps220
    go_wp2_with (first
      | (go_at_call 145; refine (right_any _ _).mono ?_; rintro e w' ⟨rfl, rfl⟩)
      | (go_at_call 149; refine (sign_any _ _).mono ?_; rintro e w' ⟨rfl, rfl⟩)
      | (go_at_call 146; refine (isMode_any _ _).mono ?_; rintro e w' ⟨rfl, rfl⟩))
    go_ret2
    exact ⟨rfl, Bl.refl _⟩
  have e1 : wrap64 (cmpI a 0 * cmpI b 0) = cmpI (a * b) 0 := by rw [sgn_mul]; exact wrap64_unit (cmpI_bd _ _)
  have e3 : decide (cmpI (a * b) 0 < 0) = decide (a * b < 0) := by
    rcases cmpI_three (a * b) 0 with ⟨h, e⟩ | ⟨h, e⟩ | ⟨h, e⟩ <;> rw [e] <;> simp <;> omega
  cases hs : decide (a * b < 0)
  case true =>
    rw [hs] at e3
    generalize cmpI (a * b) 0 = l at *
    clear hs
    go_enter Tryz.func220, Tryz.ntmps220
    go_wp2_with (first
      | (go_at_call 145; refine (right_any _ _).mono ?_; rintro e w' ⟨rfl, rfl⟩)
      | (go_at_call 149; refine (sign_any _ _).mono ?_; rintro e w' ⟨rfl, rfl⟩)
      | (go_at_call 146; refine (isMode_any _ _).mono ?_; rintro e w' ⟨rfl, rfl⟩))
    go_ret2
    exact ⟨rfl, Bl.refl _⟩
  case false =>
    cases hm : modeB mode
    case true => exact root_good a b mode ha hb hs hm w
    case false =>
      rw [hs] at e3
      generalize cmpI (a * b) 0 = l at *
      clear hs
      go_enter Tryz.func220, Tryz.ntmps220
      go_wp2_with (first
        | (go_at_call 145; refine (right_any _ _).mono ?_; rintro e w' ⟨rfl, rfl⟩)
        | (go_at_call 149; refine (sign_any _ _).mono ?_; rintro e w' ⟨rfl, rfl⟩)
        | (go_at_call 146; refine (isMode_any _ _).mono ?_; rintro e w' ⟨rfl, rfl⟩))
      go_ret2
      exact ⟨rfl, Bl.refl _⟩
end Go.Proofs.YtljmggemdkfbiaaGreat
